/- The walk of heronlaw12.TableSpoilt. -/
import Derived.Test.YtdngileimmgdnaaDoorG20
import Derived.Test.YtdngileimmgdnaaDoorG12
import Derived.RegionTactic
import Derived.Deep.DeepMust
namespace Go.Proofs.YtdngileimmgdnaaDoor
open Go Go.RowKit
attribute [local go_sem ↓] Go.wp_at_zero Go.wp_at_succ

/-- what Decode answers, plainly -/
def DecP (b : List Int) (w : World) (e : Ending) (w' : World) : Prop := ∃ f V1 V2 V3, e = .returned (.tuple #[.agg (dv f V1 V2 V3), .int .i64 (if okT b then 0 else 120)]) ∧ (V1.oneCell' = true ∧ V2.oneCell' = true ∧ V3.oneCell' = true) ∧ (okT b = false → V1 = .slice none 0 0) ∧ Below w.heap.size w w'
theorem dec_plain {b : List Int} {w w' : World} {e : Ending} (h : DecPost b w e w') (hb : Rec.Bs b) : DecP b w e w' := by
  obtain ⟨h1 | ⟨h1, rfl⟩, k⟩ := h
  · obtain ⟨h1, V1, V2, V3, Us, Hb, Tt, rfl, htm⟩ := h1
    obtain ⟨bf, be⟩ := rdT_words (Rec.bs_take hb (b.length - 4))
    exact ⟨_, V1, V2, V3, by rw [h1]; rfl, (htm.read bf be).ones, fun h => by rw [h1] at h; (cases h), k⟩
  · exact ⟨_, _, _, _, by rw [h1]; rfl, ⟨rfl, rfl, rfl⟩, fun _ => rfl, k⟩
/-- THE STATE WHILE BITS ARE TURNED -/
structure Bst (w0 u : World) (q n c f k M : Nat) (zb ys : List Int) : Prop where
  lt : M < 2 ^ k
  own : Owns u w0.heap.size (.slice (some ⟨q, 0, none⟩) n c) ys
  low : Below w0.heap.size w0 u
  bs : Crc.Bs ys
  len : ys.length = n
  run : Crc.run 4294967295 ys = Crc.run 4294967295 zb ^^^ Crc.it (8 * n - f) M
  same : M = 0 → ys = zb
theorem Bst.stay {w0 u : World} {q n c f k M : Nat} {zb ys : List Int} (h : Bst w0 u q n c f k M zb ys) : Bst w0 u q n c f (k + 1) M zb ys :=
  ⟨by have := h.lt; rw [Nat.pow_succ]; omega, h.own, h.low, h.bs, h.len, h.run, h.same⟩
theorem Bst.flip {w0 u : World} {q n c f k M y : Nat} {zb ys : List Int} (h : Bst w0 u q n c f k M zb ys) (hin : f + k < 8 * n) (hy : ys.getD ((f + k) / 8) 0 = (y : Int)) (hy1 : y < 256) :
    Bst w0 (u.setCell ⟨q, (f + k) / 8, none⟩ (.int .u8 (bits .xor .u8 (y : Int) (2 ^ ((f + k) % 8) % 256)))).drew q n c f (k + 1) (M ^^^ 2 ^ k) zb (ys.set ((f + k) / 8) ((y ^^^ 2 ^ ((f + k) % 8) : Nat) : Int)) ∧ M ^^^ 2 ^ k ≠ 0 := by
  obtain ⟨r1, r2, r3, r4, r5⟩ := flip_rel zb ys n f k M y h.len hin h.lt hy h.bs h.run
  rw [xor_u8 hy1 (Nat.mod_lt _ (by decide))]
  refine ⟨⟨r1, h.own.put _ _, (h.low.setCell (p := ⟨q, (f + k) / 8, none⟩) (by obtain ⟨g', c', e, hB, _⟩ := h.own.form; cases e; exact hB) _).drew, r3, r4, r5, fun e => absurd e r2⟩, r2⟩
/-- an image that there is -/
structure ImgAt (w u : World) (g cap : Nat) (x : Dt) : Prop where
  fit : Fits x
  bf : ∀ z ∈ x.fo, z < 4294967296
  be : ∀ z ∈ x.en, z < 4294967296
  at_ : BytesAt u (some ⟨g, 0, none⟩) (imgT x)
  gl : g < u.heap.size
  cap : (imgT x).length ≤ cap
  low : Below w.heap.size w u
theorem ImgAt.later {w u v : World} {g cap : Nat} {x : Dt} (h : ImgAt w u g cap x) (hb : Below u.heap.size u v) : ImgAt w v g cap x :=
  ⟨h.fit, h.bf, h.be, bytesAt_later hb h.at_, by have := h.gl; have := hb.size; omega, h.cap, below_step h.low hb⟩
theorem enc_img {w u u' : World} {x : Dt} {v : Value} (hF : Fits x) (bf : ∀ z ∈ x.fo, z < 4294967296) (be : ∀ z ∈ x.en, z < 4294967296) (hO : OwnsN u' u.heap.size v (imgT x)) (hl : Below w.heap.size w u') : ∃ g cap, v = .slice (some ⟨g, 0, none⟩) (imgT x).length cap ∧ ImgAt w u' g cap x := by
  have hne : imgT x ≠ [] := fun e => by have := hF.imgT_len; rw [e] at this; simp at this; omega
  obtain ⟨g, cap, e, _, hg, hbt, hc, _, _⟩ := (hO.owns hne).form
  exact ⟨g, cap, e, hF, bf, be, hbt, hg, hc, hl⟩
set_option maxRecDepth 20000 in
set_option maxHeartbeats 4000000 in
theorem one_new (w : World) : Calls Tryd.prog 9 #[] w fun e w' => ∃ V1 V2 V3 Us, e = .returned (.agg (dv (fun _ => 0) V1 V2 V3)) ∧ (V1.oneCell' = true ∧ V2.oneCell' = true ∧ V3.oneCell' = true) ∧ Below w.heap.size w w' ∧ ∀ u : World, (∀ b, w.heap.size < b → u.heap[b]? = w'.heap[b]?) → DfAt u oneT V1 V2 V3 Us := by
  obtain ⟨A, hA⟩ : ∃ A, w.heap.size = A := ⟨_, rfl⟩
  obtain ⟨w1, hw1⟩ : ∃ w1, w.alloc (.cells (dv (fun _ => 0) nilV nilV nilV) 26) = w1 := ⟨_, rfl⟩
  have k1 : Below w.heap.size w w1 := by rw [← hw1]; exact (Below.refl _ _).alloc (Nat.le_refl _) _
  have d1 : DB w1 A (fun _ => 0) nilV nilV nilV := by rw [← hw1, ← hA]; exact db_new w _ _ _ _
  have HW1 : Hid (w.alloc (.cells (dv (fun _ => 0) nilV nilV nilV) 26) = w1) := hw1
  have HAA : Hid (w.heap.size = A) := hA
  have HK1 : Hid (Below w.heap.size w w1) := k1
  have HD1 : Hid (DB w1 A (fun _ => 0) nilV nilV nilV) := d1
  clear hA hw1 k1 d1
  have hz := zeroDfa
  go_enter Tryd.func9, Tryd.ntmps9
  go_upto_region 1 with fail
  rw [HW1.out, HAA.out]
  clear HW1 hz
  have HBL : Hid (∀ o1 o2 o3 o4 : Obj, Below w1.heap.size w1 ((((w1.alloc o1).alloc o2).alloc o3).alloc o4)) := fun o1 o2 o3 o4 => ((((Below.refl _ _).alloc (Nat.le_refl _) _).alloc (by simp) _).alloc (by simp; omega) _).alloc (by simp; omega) _
  go_wp2_with (first
    | refine wpList_build_three rfl (.tmp 2) (.tmp 3) (.tmp 4) rfl rfl rfl rfl ?_
    | refine wpList_store_dfa rfl (.tmp 0) (.tmp 5) rfl (HD1.out.later (HBL.out _ _ _ _)) ⟨rfl, rfl, rfl⟩ rfl rfl ?_)
  refine bodyPost_ret (results_dfa1 rfl _ _ ((HD1.out.later (HBL.out _ _ _ _)).row _ _ _ _) rfl) rfl ?_
  have hAw : A < w1.heap.size := HD1.out.lt
  obtain ⟨N, hN⟩ : ∃ N, w1.heap.size = N := ⟨_, rfl⟩
  rw [hN] at hAw ⊢
  have z1 : ∀ o1 : Obj, (w1.alloc o1).heap.size = N + 1 := fun _ => by simp [hN]
  have z2 : ∀ o1 o2 : Obj, ((w1.alloc o1).alloc o2).heap.size = N + 1 + 1 := fun _ _ => by simp [hN]
  have z3 : ∀ o1 o2 o3 : Obj, (((w1.alloc o1).alloc o2).alloc o3).heap.size = N + 1 + 1 + 1 := fun _ _ _ => by simp [hN]
  have e1 : ∀ o1 o2 o3 o4 : Obj, ((((w1.alloc o1).alloc o2).alloc o3).alloc o4).heap[N]? = some o1 := fun o1 o2 o3 o4 => by
    rw [Below.heap_alloc _ _ _ (by rw [z3]; omega), Below.heap_alloc _ _ _ (by rw [z2]; omega), Below.heap_alloc _ _ _ (by rw [z1]; omega), ← hN]
    exact heap_alloc_new _ _
  have e2 : ∀ o1 o2 o3 o4 : Obj, ((((w1.alloc o1).alloc o2).alloc o3).alloc o4).heap[N + 1]? = some o2 := fun o1 o2 o3 o4 => by
    rw [Below.heap_alloc _ _ _ (by rw [z3]; omega), Below.heap_alloc _ _ _ (by rw [z2]; omega), ← z1 o1]
    exact heap_alloc_new _ _
  have e3 : ∀ o1 o2 o3 o4 : Obj, ((((w1.alloc o1).alloc o2).alloc o3).alloc o4).heap[N + 1 + 1]? = some o3 := fun o1 o2 o3 o4 => by
    rw [Below.heap_alloc _ _ _ (by rw [z3]; omega), ← z2 o1 o2]
    exact heap_alloc_new _ _
  have e4 : ∀ o1 o2 o3 o4 : Obj, ((((w1.alloc o1).alloc o2).alloc o3).alloc o4).heap[N + 1 + 1 + 1]? = some o4 := fun o1 o2 o3 o4 => by
    rw [← z3 o1 o2 o3]
    exact heap_alloc_new _ _
  have hNA : w.heap.size < N := by have := HAA.out; omega
  refine ⟨_, _, _, [.slice (some ⟨N, 0, none⟩) 1 1], rfl, ⟨rfl, rfl, rfl⟩, below_row (below_step HK1.out (HBL.out _ _ _ _)) (by have := HAA.out; omega) _, fun u hu => ?_⟩
  refine ⟨lat_one (by rw [hu _ (by omega), heap_row _ _ _ _ (by omega), e2]), rfl, ?_, lat_one (v := .int .u32 1) (by rw [hu _ (by omega), heap_row _ _ _ _ (by omega), e3]), lat_one (v := .int .u32 1) (by rw [hu _ (by omega), heap_row _ _ _ _ (by omega), e4]), by simp [oneT], by simp [oneT]⟩
  intro s U hU
  cases s with
  | zero =>
    simp at hU
    subst hU
    exact lat_one (v := .int .i64 0) (by rw [hu _ (by omega), heap_row _ _ _ _ (by omega), e1])
  | succ s => simp at hU
set_option maxRecDepth 20000 in
set_option maxHeartbeats 8000000 in
theorem spoilt_any (d : Dt) (V1 V2 V3 : Value) (Us : List Value) (at_ cut : Int) (m : Nat) (am : Option Addr) (nm cm : Nat) (zm : List Int) (w : World) (hd : DfAt w d V1 V2 V3 Us) (_ha : -9223372036854775808 ≤ at_ ∧ at_ < 9223372036854775808) (_hcu : -9223372036854775808 ≤ cut ∧ cut < 9223372036854775808) (_hm : m < 4294967296) (hnm : nm = zm.length) (hcm : nm ≤ cm) (hbm : BytesAt w am zm) (hzm : Rec.Bs zm) (hml : nm ≤ 1048576) (hT : Tab w) (h0 : 0 < w.heap.size) :
    Calls Tryd.prog 3 #[.agg (dv d.cl V1 V2 V3), .int .i64 at_, .int .u32 m, .int .i64 cut, .slice am nm cm] w fun e w' => e = .returned (.bool true) ∧ Below w.heap.size w w' := by
  obtain ⟨w1, hw1⟩ : ∃ w1, w.alloc (.cells (dv d.cl V1 V2 V3) 26) = w1 := ⟨_, rfl⟩
  obtain ⟨D, hD⟩ : ∃ D, w.heap.size = D := ⟨_, rfl⟩
  have kk1 : Below w.heap.size w w1 := by rw [← hw1]; exact (Below.refl _ _).alloc (Nat.le_refl _) _
  have dd1 : DB w1 D d.cl V1 V2 V3 := by rw [← hw1, ← hD]; exact db_new w _ _ _ _
  have HK1 : Hid (Below w.heap.size w w1) := kk1
  have HD1 : Hid (DB w1 D d.cl V1 V2 V3) := dd1
  have HF1 : Hid (DfAt w1 d V1 V2 V3 Us) := hd.later kk1
  have HW : Hid (w.alloc (.cells (dv d.cl V1 V2 V3) 26) = w1) := hw1
  have HDD : Hid (w.heap.size = D) := hD
  have HT : Hid (∀ u, Below w.heap.size w u → Tab u ∧ 0 < u.heap.size) := fun u hu => ⟨tab_below hu h0 hT, by have := hu.size; omega⟩
  have HBM : Hid (BytesAt w am zm) := hbm
  have HZM : Hid (Rec.Bs zm) := hzm
  have HNM : Hid (nm = zm.length) := hnm
  clear hw1 hD kk1 dd1 hd hT hbm hzm hnm
  go_enter Tryd.func3, Tryd.ntmps3
  go_upto_region 1 with fail
  rw [HW.out, HDD.out]
  clear HW
  go_wp2_with fail
  refine (known_any w1 (HT.out w1 HK1.out).1 (HT.out w1 HK1.out).2).mono ?_
  rintro e w3 ⟨rfl, k3⟩
  have HK3 : Hid (Below w.heap.size w w3) := below_step HK1.out k3
  have HD3 : Hid (DB w3 D d.cl V1 V2 V3) := HD1.out.later k3
  have HF3 : Hid (DfAt w3 d V1 V2 V3 Us) := HF1.out.later k3
  clear HK1 HD1 HF1 k3
  have HE : Hid (Calls Tryd.prog 8 #[.agg (dv d.cl V1 V2 V3)] w3 (EncPost d w3)) := encode_any d V1 V2 V3 Us w3 HF3.out (HT.out w3 HK3.out).1 (HT.out w3 HK3.out).2
  go_wp2_with (refine wpList_load_dfa rfl (.tmp 5) rfl HD3.out rfl ?_)
  refine HE.out.mono ?_
  rintro e w4 ⟨⟨v, rfl, hO⟩, k4⟩
  have HK4 : Hid (Below w.heap.size w w4) := below_step HK3.out k4
  have HD4 : Hid (DB w4 D d.cl V1 V2 V3) := HD3.out.later k4
  have HFB : Hid ((∀ z ∈ d.fo, z < 4294967296) ∧ ∀ z ∈ d.en, z < 4294967296) := ⟨HF3.out.bf, HF3.out.be⟩
  have HOO : Hid (OwnsN w4 w3.heap.size v (if rightT d then imgT d else [])) := hO
  clear HE k4 HD3 HF3 HK3 hO
  obtain ⟨rt, hrt⟩ : ∃ rt, rightT d = rt := ⟨_, rfl⟩
  have HRT : Hid (rightT d = rt) := hrt
  rw [hrt] at HOO ⊢
  clear hrt
  obtain ⟨ev, hev⟩ : ∃ ev : Int, (if rt = true then (0 : Int) else 70) = ev := ⟨_, rfl⟩
  have HEV : Hid ((if rt = true then (0 : Int) else 70) = ev) := hev
  rw [hev]
  clear hev
  go_upto_if 34 with fail
  go_cut [11, 12] (fun vv ee wx => ee = .int .i64 0 ∧ ∃ (g cap : Nat) (x : Dt), vv = .slice (some ⟨g, 0, none⟩) (imgT x).length cap ∧ Hid (ImgAt w wx g cap x))
  case first =>
    cases rt with
    | true =>
      obtain rfl : (0 : Int) = ev := HEV.out
      have HI : Hid (∃ g cap, v = .slice (some ⟨g, 0, none⟩) (imgT d).length cap ∧ ImgAt w w4 g cap d) := enc_img ((fits_iff d).1 HRT.out) HFB.out.1 HFB.out.2 HOO.out HK4.out
      go_wp2_with fail
      go_meet
      case rel =>
        obtain ⟨g, cap, e, hi⟩ := HI.out
        exact ⟨rfl, g, cap, d, e, hi⟩
    | false =>
      obtain rfl : (70 : Int) = ev := HEV.out
      go_wp2_with fail
      refine (one_new w4).mono ?_
      rintro e w5 ⟨A1, A2, A3, As, rfl, hone, k5, hdo⟩
      have HD5 : Hid (DB w5 D d.cl V1 V2 V3) := HD4.out.later k5
      have HK5 : Hid (Below w.heap.size w w5) := below_step HK4.out k5
      have HON : Hid (A1.oneCell' = true ∧ A2.oneCell' = true ∧ A3.oneCell' = true) := hone
      obtain ⟨w6, hw6⟩ : ∃ w6, w5.setRow D (dv (fun _ => 0) A1 A2 A3) = w6 := ⟨_, rfl⟩
      have HW6 : Hid (w5.setRow D (dv (fun _ => 0) A1 A2 A3) = w6) := hw6
      have HD6 : Hid (DB w6 D (fun _ => 0) A1 A2 A3) := by rw [← hw6]; exact HD5.out.row _ _ _ _
      have HK6 : Hid (Below w.heap.size w w6) := by rw [← hw6]; exact below_row HK5.out (by have := HDD.out; omega) _
      have HF6 : Hid (DfAt w6 oneT A1 A2 A3 As) := by rw [← hw6]; exact hdo _ (fun b hb => heap_row _ _ _ _ (by have := HD4.out.lt; omega))
      clear hdo k5 hw6 hone
      go_upto_region 6 with (refine wpList_store_dfa rfl (.tmp 5) (.tmp 35) rfl HD5.out HON.out rfl rfl ?_; rw [HW6.out])
      have HE : Hid (Calls Tryd.prog 8 #[.agg (dv (fun _ => 0) A1 A2 A3)] w6 (EncPost oneT w6)) := encode_any oneT A1 A2 A3 As w6 HF6.out (HT.out w6 HK6.out).1 (HT.out w6 HK6.out).2
      go_wp2_with (refine wpList_load_dfa rfl (.tmp 5) rfl HD6.out rfl ?_)
      refine HE.out.mono ?_
      rintro e w7 ⟨⟨v7, rfl, hO⟩, k7⟩
      rw [(fits_iff oneT).2 fits_one] at hO ⊢
      simp only [if_true] at hO ⊢
      have HI : Hid (∃ g cap, v7 = .slice (some ⟨g, 0, none⟩) (imgT oneT).length cap ∧ ImgAt w w7 g cap oneT) := enc_img fits_one (by simp [oneT]) (by simp [oneT]) hO (below_step HK6.out k7)
      clear hO k7
      go_wp2_with fail
      go_meet
      case rel =>
        obtain ⟨g, cap, e, hi⟩ := HI.out
        exact ⟨rfl, g, cap, oneT, e, hi⟩
  case rest =>
  obtain ⟨rfl, g, cap, x, rfl, HI⟩ := hcut
  clear HD4 HK4 HOO HEV HRT HFB ev rt
  obtain ⟨n, hn⟩ : ∃ n, (imgT x).length = n := ⟨_, rfl⟩
  have HN : Hid ((imgT x).length = n) := hn
  have hn1 : 274 ≤ n ∧ n ≤ 2130194 := by
    have h1 := HI.out.fit.imgT_len
    have h2 : x.S * (8 + 2 * x.C) ≤ 4096 * 520 := Nat.mul_le_mul HI.out.fit.s2 (by have := HI.out.fit.c2; omega)
    omega
  rw [hn]
  clear hn
  obtain ⟨hn1, hn2⟩ := hn1
  have hcap : n ≤ cap := by have := HI.out.cap; have := HN.out; omega
  have h8n : (0 : Int) < 8 * (n : Int) := by omega
  have hb0 : ¬ (8 * (n : Int)) = 0 := by omega
  go_upto_if 55 with fail
  obtain ⟨r, hr⟩ : ∃ r : Int, at_.tmod (8 * (n : Int)) = r := ⟨_, rfl⟩
  have hr1 : -(8 * (n : Int)) < r ∧ r < 8 * (n : Int) := by
    rw [← hr]
    exact ⟨by have := Int.lt_tmod_of_pos at_ h8n; omega, Int.tmod_lt_of_pos at_ h8n⟩
  rw [hr]
  clear hr
  obtain ⟨hr1, hr2⟩ := hr1
  go_cut [14] (fun vv wx => ∃ f : Nat, vv = .int .i64 (f : Nat) ∧ f < 8 * n ∧ wx = wc)
  case first =>
    by_cases hneg : r < 0
    · have hne : IntKind.i64.wrap (-r) = -r := by simp [IntKind.wrap, IntKind.signed, IntKind.bits]; omega
      go_wp2_with fail
      go_meet
      case rel => exact ⟨(-r).toNat, by rw [Int.toNat_of_nonneg (by omega)], by omega, rfl⟩
    · go_wp2_with fail
      go_meet
      case rel => exact ⟨r.toNat, by rw [Int.toNat_of_nonneg (by omega)], by omega, rfl⟩
  case rest =>
  obtain ⟨f, rfl, hf, rfl⟩ := hcut
  clear hr1 hr2
  obtain ⟨W, hW⟩ : ∃ W, W = wc := ⟨_, rfl⟩
  rw [← hW] at HI ⊢
  clear hW wc
  go_upto_region 16 with (at_builtin; refine wpList_append_bytesN rfl (.tmp 58) (.tmp 59) rfl W _ [] rfl (ownsN_nil W W.heap.size) (Below.refl _ _) (some ⟨g, 0, none⟩) cap n (imgT x) HN.out.symm rfl HI.out.at_ (by have := HN.out; simp; omega) ?_; intro v2 w2 ho2 hb2; rw [List.nil_append] at ho2)
  have hq : ∃ q c, v2 = .slice (some ⟨q, 0, none⟩) n c ∧ n ≤ c ∧ Bst W w2 q n c f 0 0 (imgT x) (imgT x) := by
    have hne : imgT x ≠ [] := fun e => by have h := HN.out; rw [e] at h; simp at h; omega
    obtain ⟨q, c, e, _, _, _, hc, _, _⟩ := (ho2.owns hne).form
    rw [HN.out] at e hc
    refine ⟨q, c, e, hc, by decide, by rw [← e]; exact ho2.owns hne, hb2, bs_imgT x, HN.out, by rw [Crc.it_zero, Nat.xor_zero], fun _ => rfl⟩
  obtain ⟨q, c, rfl, hqc, hbst⟩ := hq
  have HB2 : Hid (Bst W w2 q n c f 0 0 (imgT x) (imgT x)) := hbst
  clear ho2 hb2 hbst
  go_wp2_with fail
  go_loopw [16, 17] (fun t i wr => ∃ (k M : Nat) (ys : List Int), k ≤ 32 ∧ i = .int .i64 (k : Nat) ∧ t = .bool (decide (M ≠ 0)) ∧ Hid (Bst W wr q n c f k M (imgT x) ys)) (fun _ i _ => 32 - (intOf i).toNat)
  case atStart => exact ⟨0, 0, imgT x, by omega, rfl, rfl, HB2⟩
  case round =>
    obtain ⟨k, M, ys, hk, rfl, rfl, HB⟩ := hrel
    obtain ⟨gb, hgb⟩ : ∃ gb : Bool, decide (k < 32 ∧ f + k < 8 * n) = gb := ⟨_, rfl⟩
    have HGB : Hid (decide (k < 32 ∧ f + k < 8 * n) = gb) := hgb
    clear hgb
    obtain ⟨ch, hch⟩ : ∃ ch : Bool, decide (M ≠ 0) = ch := ⟨_, rfl⟩
    have HCH : Hid (decide (M ≠ 0) = ch) := hch
    rw [hch]
    clear hch
    go_upto_region 17 with fail
    go_cut [69] from 61 to 95 (fun vv wx => vv = .bool gb ∧ wx = wr)
    case first =>
      by_cases hlt : k < 32
      · by_cases hin : f + k < 8 * n
        · have hin' : (f : Int) + (k : Int) < 8 * (n : Int) := by omega
          have hv : gb = true := by rw [← HGB.out]; simp [hlt, hin]
          clear hin
          go_wp2_with fail
          go_meet
          case rel => exact ⟨by rw [hv], rfl⟩
        · have hin' : ¬ (f : Int) + (k : Int) < 8 * (n : Int) := by omega
          have hv : gb = false := by rw [← HGB.out]; simp [hin]
          clear hin
          go_wp2_with fail
          go_meet
          case rel => exact ⟨by rw [hv], rfl⟩
      · have hv : gb = false := by rw [← HGB.out]; simp [hlt]
        go_wp2_with fail
        go_meet
        case rel => exact ⟨by rw [hv], rfl⟩
    case rest =>
    obtain ⟨rfl, rfl⟩ := hcut
    cases gb with
    | true =>
      obtain ⟨hlt, hin⟩ : k < 32 ∧ f + k < 8 * n := of_decide_eq_true HGB.out
      have hin' : ((f : Int) + (k : Int)) / 8 < (n : Int) := by omega
      have hin0 : (0 : Int) ≤ ((f : Int) + (k : Int)) / 8 := by omega
      obtain ⟨y, hy1, hy, hcell, hfr⟩ := HB.out.own.at HB.out.bs (j := (f + k) / 8) (by rw [HB.out.len]; omega)
      have HYY : Hid (ys.getD ((f + k) / 8) 0 = (y : Int)) := hy
      clear hy
      go_wp2
      · go_region
        go_wp2
        go_roundw
        case rel =>
          obtain ⟨hb, hM⟩ := HB.out.flip (y := y) hin HYY.out hy1
          exact ⟨k + 1, M ^^^ 2 ^ k, _, by omega, by go_num, by rw [decide_eq_true hM], hb⟩
        case measure => simp [intOf]; omega
      · go_roundw
        case rel => exact ⟨k + 1, M, ys, by omega, by go_num, by rw [HCH.out], HB.out.stay⟩
        case measure => simp [intOf]; omega
    | false =>
    have hq2 : BytesAt wc (some ⟨q, 0, none⟩) ys := by
      obtain ⟨g', c', e, _, _, hb', _⟩ := HB.out.own.form
      cases e
      exact hb'
    have HIR : Hid (ImgAt w wc g cap x) := HI.out.later HB.out.low
    have HDY : Hid (Calls Tryd.prog 10 #[.slice (some ⟨q, 0, none⟩) n c] wc (DecPost ys wc)) := decode_any _ n c ys wc HB.out.len.symm hqc (by omega) hq2 HB.out.bs (HT.out wc HIR.out.low).1 (HT.out wc HIR.out.low).2
    have HOK : Hid (okT ys = !ch) := by
      show _ = _
      have hx := (HIR.out.fit.decode HIR.out.bf HIR.out.be).1
      rw [← HCH.out]
      by_cases hM : M = 0
      · rw [HB.out.same hM, hx, hM]; rfl
      · have hM2 : M < 4294967296 := Nat.lt_of_lt_of_le HB.out.lt (Nat.le_trans (Nat.pow_le_pow_right (by decide) hk) (by decide))
        rw [burst_bad (bs_imgT x) HB.out.bs HN.out HB.out.len (by omega) hM hM2 (img_sum x).1 HB.out.run]
        simp [hM]
    have HYB : Hid (Rec.Bs ys) := HB.out.bs
    clear hq2 HB HGB HCH
    go_wp2_with fail
    refine HDY.out.mono ?_
    rintro e w5 h5
    obtain ⟨f5, X1, X2, X3, rfl, hone, hnil, k5⟩ := dec_plain h5 HYB.out
    have HI5 : Hid (ImgAt w w5 g cap x) := HIR.out.later k5
    have HONE : Hid (X1.oneCell' = true ∧ X2.oneCell' = true ∧ X3.oneCell' = true) := hone
    have HNIL : Hid (ch = true → X1 = .slice none 0 0) := fun h => hnil (by rw [HOK.out, h]; rfl)
    rw [HOK.out]
    obtain ⟨ev, hev⟩ : ∃ ev : Int, (if (!ch) = true then (0 : Int) else 120) = ev := ⟨_, rfl⟩
    rw [hev]
    have HEV : Hid ((if (!ch) = true then (0 : Int) else 120) = ev) := hev
    clear h5 hone hnil k5 HDY HIR HOK HYB hev
    obtain ⟨E, hE⟩ : ∃ E, w5.heap.size = E := ⟨_, rfl⟩
    obtain ⟨w6, hw6⟩ : ∃ w6, w5.alloc (.cells (dv (fun _ => 0) nilV nilV nilV) 26) = w6 := ⟨_, rfl⟩
    have k6 : Below w5.heap.size w5 w6 := by rw [← hw6]; exact (Below.refl _ _).alloc (Nat.le_refl _) _
    have d6 : DB w6 E (fun _ => 0) nilV nilV nilV := by rw [← hw6, ← hE]; exact db_new w5 _ _ _ _
    obtain ⟨w7, hw7⟩ : ∃ w7, w6.setRow E (dv f5 X1 X2 X3) = w7 := ⟨_, rfl⟩
    have HD7 : Hid (DB w7 E f5 X1 X2 X3) := by rw [← hw7]; exact d6.row _ _ _ _
    have k7 : Below w5.heap.size w5 w7 := by rw [← hw7]; exact below_row k6 (by omega) _
    have HI7 : Hid (ImgAt w w7 g cap x) := HI5.out.later k7
    have HW6 : Hid (w5.alloc (.cells (dv (fun _ => 0) nilV nilV nilV) 26) = w6) := hw6
    have HW7 : Hid (w6.setRow E (dv f5 X1 X2 X3) = w7) := hw7
    have HEE : Hid (w5.heap.size = E) := hE
    have hz := zeroDfa
    clear hE hw6 k6 d6 hw7 k7 HI5
    go_upto_region 23 with (refine wpList_store_dfa rfl (.tmp 18) (.tmp 99) rfl (db_new w5 (fun _ => 0) nilV nilV nilV) HONE.out rfl rfl ?_; rw [HW6.out, HEE.out, HW7.out])
    clear HW6 HW7 HEE HONE
    go_cut [119] (fun vv wx => vv = .bool false ∧ wx = w7)
    case first =>
      cases ch with
      | true =>
        have q7 := HD7.out.hi.1
        obtain rfl : (120 : Int) = ev := HEV.out
        rw [HNIL.out rfl] at q7
        go_wp2_with fail
        go_meet
        case rel => exact ⟨rfl, rfl⟩
      | false =>
        obtain rfl : (0 : Int) = ev := HEV.out
        go_wp2_with fail
        go_meet
        case rel => exact ⟨rfl, rfl⟩
    case rest =>
    obtain ⟨rfl, rfl⟩ := hcut
    clear HNIL HD7 HEV
    have hn0 : ¬ (n : Int) = 0 := by omega
    go_upto_if 125 with fail
    obtain ⟨r, hr⟩ : ∃ r : Int, cut.tmod (n : Int) = r := ⟨_, rfl⟩
    have hr1 : -(n : Int) < r ∧ r < (n : Int) := by
      rw [← hr]
      exact ⟨by have := Int.lt_tmod_of_pos cut (show (0 : Int) < (n : Int) by omega); omega, Int.tmod_lt_of_pos cut (by omega)⟩
    rw [hr]
    clear hr
    obtain ⟨hr1, hr2⟩ := hr1
    go_cut [20] (fun vv wx => ∃ p : Nat, vv = .int .i64 (p : Nat) ∧ p < n ∧ wx = wc)
    case first =>
      by_cases hneg : r < 0
      · have hne : IntKind.i64.wrap (-r) = -r := by simp [IntKind.wrap, IntKind.signed, IntKind.bits]; omega
        go_wp2_with fail
        go_meet
        case rel => exact ⟨(-r).toNat, by rw [Int.toNat_of_nonneg (by omega)], by omega, rfl⟩
      · go_wp2_with fail
        go_meet
        case rel => exact ⟨r.toNat, by rw [Int.toNat_of_nonneg (by omega)], by omega, rfl⟩
    case rest =>
    obtain ⟨p, rfl, hp, rfl⟩ := hcut
    clear hr1 hr2
    have hp1 : (p : Int) ≤ (cap : Int) := by omega
    have HDC1 : Hid (Calls Tryd.prog 10 #[.slice (some ⟨g, 0, none⟩) p cap] wc (DecPost ((imgT x).take p) wc)) := decode_any _ p cap ((imgT x).take p) wc (by rw [List.length_take, HN.out]; omega) (by omega) (by omega) (bytesAt_take p HI7.out.at_) (Rec.bs_take (bs_imgT x) p) (HT.out wc HI7.out.low).1 (HT.out wc HI7.out.low).2
    have HOK1 : Hid (okT ((imgT x).take p) = false) := cut_bad HI7.out.fit (by rw [HN.out]; exact hp)
    have HBB1 : Hid (Rec.Bs ((imgT x).take p)) := Rec.bs_take (bs_imgT x) p
    go_wp2_with fail
    refine HDC1.out.mono ?_
    rintro e u1 h5
    obtain ⟨f1, Y1, Y2, Y3, rfl, hone, -, k5⟩ := dec_plain h5 HBB1.out
    have HJ1 : Hid (ImgAt w u1 g cap x) := HI7.out.later k5
    have HONE : Hid (Y1.oneCell' = true ∧ Y2.oneCell' = true ∧ Y3.oneCell' = true) := hone
    rw [HOK1.out]
    clear h5 hone k5 HDC1 HOK1 HBB1 HI7
    obtain ⟨E1, hE⟩ : ∃ E, u1.heap.size = E := ⟨_, rfl⟩
    obtain ⟨x1, hw6⟩ : ∃ w6, u1.alloc (.cells (dv (fun _ => 0) nilV nilV nilV) 26) = w6 := ⟨_, rfl⟩
    have k6 : Below u1.heap.size u1 x1 := by rw [← hw6]; exact (Below.refl _ _).alloc (Nat.le_refl _) _
    obtain ⟨y1, hw7⟩ : ∃ w7, x1.setRow E1 (dv f1 Y1 Y2 Y3) = w7 := ⟨_, rfl⟩
    have k7 : Below u1.heap.size u1 y1 := by rw [← hw7]; exact below_row k6 (by omega) _
    have HI1 : Hid (ImgAt w y1 g cap x) := HJ1.out.later k7
    have HW6 : Hid (u1.alloc (.cells (dv (fun _ => 0) nilV nilV nilV) 26) = x1) := hw6
    have HW7 : Hid (x1.setRow E1 (dv f1 Y1 Y2 Y3) = y1) := hw7
    have HEE : Hid (u1.heap.size = E1) := hE
    clear hE hw6 k6 hw7 k7 HJ1
    go_upto_region 29 with (refine wpList_store_dfa rfl (.tmp 21) (.tmp 133) rfl (db_new u1 (fun _ => 0) nilV nilV nilV) HONE.out rfl rfl ?_; rw [HW6.out, HEE.out, HW7.out])
    clear HW6 HW7 HEE HONE
    go_upto_region 31 with (at_builtin; refine wpList_append_bytesN rfl (.tmp 135) (.tmp 136) rfl y1 _ [] rfl (ownsN_nil y1 y1.heap.size) (Below.refl _ _) (some ⟨g, 0, none⟩) cap n (imgT x) HN.out.symm rfl HI1.out.at_ (by have := HN.out; simp; omega) ?_; intro v2 w2 ho2 hb2; rw [List.nil_append] at ho2)
    have HO2 : Hid (OwnsN w2 y1.heap.size v2 (imgT x)) := ho2
    have HI2 : Hid (ImgAt w w2 g cap x) := HI1.out.later hb2
    have hv2 : ∃ a2 c2, v2 = .slice a2 n c2 := by
      obtain ⟨a2, c2, e, _⟩ := ho2.form
      rw [HN.out] at e
      exact ⟨a2, c2, e⟩
    have hb2' : Below w2.heap.size w2 w2 := Below.refl _ _
    have HLB : Hid (OwnsN w2 y1.heap.size v2 (imgT x) ∧ Below y1.heap.size y1 w2) := ⟨ho2, hb2⟩
    obtain ⟨a2, c2, rfl⟩ := hv2
    have HBM2 : Hid (BytesAt w2 am zm) := bytesAt_later HI2.out.low HBM.out
    have HNM2 : Hid (nm = zm.length) := HNM.out
    have HL1 : Hid (Below w.heap.size w y1) := HI1.out.low
    clear ho2 hb2 hb2' HI1
    go_wp2_with (at_builtin; refine wpList_append_bytesN rfl (.tmp 139) (.tmp 140) rfl y1 _ (imgT x) rfl HLB.out.1 HLB.out.2 am cm nm zm HNM2.out rfl HBM2.out (by have := HN.out; have := HNM2.out; omega) ?_; intro v3 w3 ho3 hb3)
    have HL3 : Hid (Below w.heap.size w w3) := below_step HL1.out hb3
    obtain ⟨a3, c3, e3, hbt3, hc3, hm3, -⟩ := ho3.form
    obtain ⟨N3, hN3⟩ : ∃ N3, (imgT x ++ zm).length = N3 := ⟨_, rfl⟩
    have hN4 : N3 = n + nm := by rw [← hN3, List.length_append, HN.out, HNM.out]
    have hbs3 : Rec.Bs (imgT x ++ zm) := Rec.bs_append (bs_imgT x) HZM.out
    have HDC2 : Hid (Calls Tryd.prog 10 #[.slice a3 N3 c3] w3 (DecPost (imgT x ++ zm) w3)) := decode_any a3 N3 c3 (imgT x ++ zm) w3 hN3.symm (by omega) (by omega) hbt3 hbs3 (HT.out w3 HL3.out).1 (HT.out w3 HL3.out).2
    have HOK2 : Hid (okT (imgT x ++ zm) = decide (nm = 0)) := by
      show _ = _
      by_cases hz0 : zm = []
      · have hnm0 : nm = 0 := by rw [HNM.out, hz0]; rfl
        rw [hz0, List.append_nil, hnm0, (HI2.out.fit.decode HI2.out.bf HI2.out.be).1]
        rfl
      · rw [more_bad HI2.out.fit hz0, decide_eq_false]
        rw [HNM.out]
        exact fun e => hz0 (List.eq_nil_of_length_eq_zero e)
    have HBB2 : Hid (Rec.Bs (imgT x ++ zm)) := hbs3
    rw [hN3] at e3
    subst e3
    clear ho3 hb3 hbt3 hc3 hm3 hN3 hN4 hbs3 HLB HO2
    go_wp2_with fail
    refine HDC2.out.mono ?_
    rintro e u2 h5
    obtain ⟨f2, Y1, Y2, Y3, rfl, hone, -, k5⟩ := dec_plain h5 HBB2.out
    have HJ2 : Hid (Below w.heap.size w u2) := below_step HL3.out k5
    have HONE : Hid (Y1.oneCell' = true ∧ Y2.oneCell' = true ∧ Y3.oneCell' = true) := hone
    rw [HOK2.out]
    obtain ⟨ev2, hev⟩ : ∃ ev : Int, (if decide (nm = 0) = true then (0 : Int) else 120) = ev := ⟨_, rfl⟩
    rw [hev]
    have HEV : Hid ((if decide (nm = 0) = true then (0 : Int) else 120) = ev2) := hev
    clear h5 hone k5 HDC2 HOK2 HBB2 hev HI2 HL3
    obtain ⟨E2, hE⟩ : ∃ E, u2.heap.size = E := ⟨_, rfl⟩
    obtain ⟨x2, hw6⟩ : ∃ w6, u2.alloc (.cells (dv (fun _ => 0) nilV nilV nilV) 26) = w6 := ⟨_, rfl⟩
    have k6 : Below u2.heap.size u2 x2 := by rw [← hw6]; exact (Below.refl _ _).alloc (Nat.le_refl _) _
    obtain ⟨y2, hw7⟩ : ∃ w7, x2.setRow E2 (dv f2 Y1 Y2 Y3) = w7 := ⟨_, rfl⟩
    have k7 : Below u2.heap.size u2 y2 := by rw [← hw7]; exact below_row k6 (by omega) _
    have HBE : Hid (Below w.heap.size w y2) := below_step HJ2.out k7
    have HW6 : Hid (u2.alloc (.cells (dv (fun _ => 0) nilV nilV nilV) 26) = x2) := hw6
    have HW7 : Hid (x2.setRow E2 (dv f2 Y1 Y2 Y3) = y2) := hw7
    have HEE : Hid (u2.heap.size = E2) := hE
    clear hE hw6 k6 hw7 k7 HJ2
    go_upto_region 32 with (refine wpList_store_dfa rfl (.tmp 24) (.tmp 143) rfl (db_new u2 (fun _ => 0) nilV nilV nilV) HONE.out rfl rfl ?_; rw [HW6.out, HEE.out, HW7.out])
    clear HW6 HW7 HEE HONE
    by_cases hnm0 : nm = 0
    · subst hnm0
      obtain rfl : (0 : Int) = ev2 := HEV.out
      go_wp2
      go_ret
      exact ⟨rfl, HBE.out⟩
    · obtain rfl : (120 : Int) = ev2 := by rw [← HEV.out, decide_eq_false hnm0]; rfl
      have hnm1 : ((nm : Int) == 0) = false := by simp; omega
      go_wp2
      go_ret
      exact ⟨rfl, HBE.out⟩
end Go.Proofs.YtdngileimmgdnaaDoor
