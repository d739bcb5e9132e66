/- heronref12.Decode: the walk. -/
import Derived.Test.YtdngileimmgdnaaDoorG30
namespace Go.Proofs.YtdngileimmgdnaaDoor
open Go Go.RowKit
attribute [local go_sem ↓] Go.wp_at_zero Go.wp_at_succ

def decT (b : List Int) : Dt := if okT b then rdT (frontB b) else zeroDt
def RDecPost (b : List Int) (w : World) (e : Ending) (w' : World) : Prop := ∃ (d : Dt) (V1 V2 V3 : Value) (Us : List Value), e = .returned (.tuple #[.agg (dv d.cl V1 V2 V3), .int .i64 (if okT b then 0 else 120)]) ∧ DfAt w' d V1 V2 V3 Us ∧ R64 d.cl ∧ sameD d (decT b) ∧ Below w.heap.size w w'
theorem zero_df (w : World) : DfAt w zeroDt nilV nilV nilV [] := ⟨lat_nil w, rfl, fun s U h => by simp at h, lat_nil w, lat_nil w, fun x h => by simp [zeroDt] at h, fun x h => by simp [zeroDt] at h⟩
theorem r64_zero : R64 zeroDt.cl := fun i _ => by simp [zeroDt]
theorem no_post {b : List Int} {w w' : World} {e : Ending} (h : okT b = false) (he : e = .returned (.tuple #[.agg (dv (fun _ => 0) nilV nilV nilV), .int .i64 120])) (hb : Below w.heap.size w w') : RDecPost b w e w' :=
  ⟨zeroDt, nilV, nilV, nilV, [], by rw [he, h]; rfl, zero_df w', r64_zero, by unfold decT; rw [h]; exact sameD.refl _, hb⟩
/-- bytes that tell no table by their sizes -/
theorem ok_sizes {b : List Int} (h : okT b = true) : 274 ≤ b.length ∧ rdS b ≤ 4096 ∧ rdC b ≤ 256 ∧ b.length = 274 + rdS b * rdL b := by
  unfold okT at h
  simp only [Bool.and_eq_true] at h
  obtain ⟨hs, hw, _⟩ := h
  obtain ⟨_, h2, h3, h4⟩ := whole_parts hw
  have h5 : 4 ≤ b.length := by
    unfold sumT at hs
    simp only [Bool.and_eq_true, decide_eq_true_eq] at hs
    exact hs.1
  have hl : (b.take (b.length - 4)).length = b.length - 4 := by rw [List.length_take]; omega
  rw [hl] at h4
  have h6 : 274 ≤ b.length := by omega
  have e : ∀ {p n : Nat}, p + n ≤ 14 → vl (b.take (b.length - 4)) p n = vl b p n := fun {p n} hp => vl_take (k := 14) hp (by rw [List.take_take, Nat.min_eq_left (by omega)])
  have eS : rdS (b.take (b.length - 4)) = rdS b := e (by omega)
  have eC : rdC (b.take (b.length - 4)) = rdC b := e (by omega)
  have eL : rdL (b.take (b.length - 4)) = rdL b := by unfold rdL; rw [eC]
  rw [eS] at h2
  rw [eC] at h3
  rw [eS, eL] at h4
  exact ⟨h6, h2, h3, by omega⟩
/-- the table that was read out of all the bytes -/
theorem same_front {b : List Int} {f : Nat → Int} (h274 : 274 ≤ b.length) (hl : b.length = 274 + rdS b * rdL b) (hf : ∀ i, i < 256 → f i = rdCl b i) : sameD ⟨f, (List.range (rdS b)).map (rdRow b), (List.range (rdS b)).map (rdF b), (List.range (rdS b)).map (rdE b)⟩ (rdT (frontB b)) := by
  have e : ∀ {p n : Nat}, p + n ≤ b.length - 4 → vl (frontB b) p n = vl b p n := fun {p n} hp => vl_take (k := b.length - 4) hp (by unfold frontB; rw [List.take_take, Nat.min_self])
  have eS : rdS (frontB b) = rdS b := e (by omega)
  have eC : rdC (frontB b) = rdC b := e (by omega)
  have eL : rdL (frontB b) = rdL b := by unfold rdL; rw [eC]
  have hLL : rdL b = 8 + 2 * rdC b := rfl
  have hin : ∀ s, s < rdS b → 270 + s * rdL b + rdL b ≤ b.length - 4 := fun s hs => by
    have : (s + 1) * rdL b ≤ rdS b * rdL b := Nat.mul_le_mul_right _ hs
    rw [Nat.succ_mul] at this
    omega
  refine ⟨fun i hi => ?_, ?_, ?_, ?_⟩
  · show f i = rdCl (frontB b) i
    rw [hf i hi]
    unfold rdCl
    rw [e (by omega)]
  · show _ = (List.range (rdS (frontB b))).map (rdRow (frontB b))
    rw [eS]
    refine List.map_congr_left (fun s hs => ?_)
    have hs' := hin s (by simpa using hs)
    unfold rdRow
    rw [eC, eL]
    refine List.map_congr_left (fun c hc => ?_)
    have hc' : c < rdC b := by simpa using hc
    rw [e (by omega)]
  · show _ = (List.range (rdS (frontB b))).map (rdF (frontB b))
    rw [eS]
    refine List.map_congr_left (fun s hs => ?_)
    have hs' := hin s (by simpa using hs)
    unfold rdF
    rw [eC, eL, e (by omega)]
  · show _ = (List.range (rdS (frontB b))).map (rdE (frontB b))
    rw [eS]
    refine List.map_congr_left (fun s hs => ?_)
    have hs' := hin s (by simpa using hs)
    unfold rdE
    rw [eC, eL, e (by omega)]
theorem ok_again {b : List Int} (hb : Rec.Bs b) : okT b = (rightT (rdT (frontB b)) && decide (imgT (rdT (frontB b)) = b)) := by
  rw [Bool.eq_iff_iff, Bool.and_eq_true, decide_eq_true_eq]
  constructor
  · intro h
    refine ⟨?_, img_rdT hb h⟩
    unfold okT at h
    simp only [Bool.and_eq_true] at h
    exact h.2.2
  · rintro ⟨h1, h2⟩
    obtain ⟨bf, be⟩ := rdT_words (Rec.bs_take hb (b.length - 4))
    have := (((fits_iff _).1 h1).decode bf be).1
    rw [h2] at this
    exact this
theorem map_snoc {α : Type} (g : Nat → α) (s : Nat) : (List.range (s + 1)).map g = (List.range s).map g ++ [g s] := by rw [List.range_succ, List.map_append]; rfl
theorem fam_df {B : Nat} {u : World} {f : Nat → Int} {rows : List (Value × List Int)} {V1 V2 V3 : Value} {fo en : List Nat} (h : Fam B u (fm [] rows (V1, rows.map Prod.fst) (V2, fo) (V3, en))) (bf : ∀ x ∈ fo, x < 4294967296) (be : ∀ x ∈ en, x < 4294967296) : DfAt u ⟨f, rows.map Prod.snd, fo, en⟩ V1 V2 V3 (rows.map Prod.fst) := by
  refine ⟨owns_lat (h.own 4 _ _ _ (fm_at4 _ _ _ _ _)), by simp [Dt.S], fun s U hU => ?_, owns_lat (h.own 5 _ _ _ (fm_at5 _ _ _ _ _)), owns_lat (h.own 6 _ _ _ (fm_at6 _ _ _ _ _)), bf, be⟩
  rw [List.getElem?_map] at hU
  cases hr : rows[s]? with
  | none => rw [hr] at hU; simp at hU
  | some p =>
    rw [hr] at hU
    simp at hU
    subst hU
    have e : Dt.row ⟨f, rows.map Prod.snd, fo, en⟩ s = p.2 := by
      unfold Dt.row
      simp [List.getD_eq_getElem?_getD, hr]
    rw [e]
    exact owns_lat (h.own (7 + s) 3 p.1 (ints p.2) (by rw [fm_at7, hr]; rfl))
theorem Dd.df {w u : World} {T Z : Nat} {f : Nat → Int} {rows : List (Value × List Int)} {V1 V2 V3 : Value} {fo en : List Nat} (h : Dd w u T Z f rows (rows.map Prod.fst) V1 V2 V3 fo en) (bf : ∀ x ∈ fo, x < 4294967296) (be : ∀ x ∈ en, x < 4294967296) : DfAt u ⟨f, rows.map Prod.snd, fo, en⟩ V1 V2 V3 (rows.map Prod.fst) := fam_df h.fam bf be
theorem cls_step {b : List Int} {f : Nat → Int} {k : Nat} {z : Int} (h : (∀ j, j < k → f j = rdCl b j) ∧ ∀ j, 0 ≤ f j ∧ f j < 256) (hz : rdCl b k = z) (hbd : 0 ≤ z ∧ z < 256) : (∀ j, j < k + 1 → (fun j => if j = k then z else f j) j = rdCl b j) ∧ ∀ j, 0 ≤ (fun j => if j = k then z else f j) j ∧ (fun j => if j = k then z else f j) j < 256 := by
  refine ⟨fun j hj => ?_, fun j => ?_⟩
  · show (if j = k then z else f j) = _
    by_cases e : j = k
    · rw [if_pos e, e, hz]
    · rw [if_neg e]; exact h.1 j (by omega)
  · show 0 ≤ (if j = k then z else f j) ∧ (if j = k then z else f j) < 256
    by_cases e : j = k
    · rw [if_pos e]; exact hbd
    · rw [if_neg e]; exact h.2 j
section
variable {w v : World} {T Z : Nat} {f : Nat → Int} {rows : List (Value × List Int)} {Xs : List Value} {V1 V2 V3 X : Value} {fo en : List Nat}
theorem famT' (hf : Fam w.heap.size v (fm [] rows (V1, Xs) (V2, fo) (V3, en))) {U1 U2 U3 : Value} (hdb : DB v T f U1 U2 U3) (j : Nat) (x : Value) : Fam w.heap.size (v.setCell ⟨T, j, none⟩ x) (fm [] rows (V1, Xs) (V2, fo) (V3, en)) :=
  hf.keep (fun i t y ys b hi hb => Below.heap_setCell v ⟨T, j, none⟩ x b (fun e => by
    have e' : b = T := e
    have h1 := (own_at (hf.own i t y ys hi) b hb).2.2
    rw [e'] at h1
    exact fm_types hi (TyB.ne h1 hdb.ty)))
theorem dd_mk1 (hf : Fam w.heap.size v (fm [] rows (X, Xs) (V2, fo) (V3, en))) (h : DB v T f V1 V2 V3 ∧ DB v Z (fun _ => 0) nilV nilV nilV ∧ Below w.heap.size w v) (hT : w.heap.size ≤ T) (hZ : Z ≠ T) : Dd w (v.setCell ⟨T, 256, none⟩ X) T Z f rows Xs X V2 V3 fo en :=
  ⟨famT' hf h.1 _ _, h.1.put1 _, h.2.1.same (Below.heap_setCell v ⟨T, 256, none⟩ _ Z hZ), h.2.2.setCell (p := ⟨T, 256, none⟩) hT _, hT⟩
theorem dd_mk2 (hf : Fam w.heap.size v (fm [] rows (V1, Xs) (X, fo) (V3, en))) (h : DB v T f V1 V2 V3 ∧ DB v Z (fun _ => 0) nilV nilV nilV ∧ Below w.heap.size w v) (hT : w.heap.size ≤ T) (hZ : Z ≠ T) : Dd w (v.setCell ⟨T, 257, none⟩ X) T Z f rows Xs V1 X V3 fo en :=
  ⟨famT' hf h.1 _ _, h.1.put2 _, h.2.1.same (Below.heap_setCell v ⟨T, 257, none⟩ _ Z hZ), h.2.2.setCell (p := ⟨T, 257, none⟩) hT _, hT⟩
theorem dd_mk3 (hf : Fam w.heap.size v (fm [] rows (V1, Xs) (V2, fo) (X, en))) (h : DB v T f V1 V2 V3 ∧ DB v Z (fun _ => 0) nilV nilV nilV ∧ Below w.heap.size w v) (hT : w.heap.size ≤ T) (hZ : Z ≠ T) : Dd w (v.setCell ⟨T, 258, none⟩ X) T Z f rows Xs V1 V2 X fo en :=
  ⟨famT' hf h.1 _ _, h.1.put3 _, h.2.1.same (Below.heap_setCell v ⟨T, 258, none⟩ _ Z hZ), h.2.2.setCell (p := ⟨T, 258, none⟩) hT _, hT⟩
end
theorem rdRow_take (b : List Int) (s : Nat) {c : Nat} (hc : c < rdC b) : (rdRow b s).take (c + 1) = (rdRow b s).take c ++ [((vl b (270 + s * rdL b + c * 2) 2 : Nat) : Int)] := by
  rw [Rec.take_snoc _ c (by rw [rdRow_len]; exact hc)]
  unfold rdRow
  rw [getD_range _ _ _ hc]
theorem ints_snoc (r : List Int) (z : Int) : ints r ++ [Value.int .i64 z] = ints (r ++ [z]) := by simp [ints]
set_option maxRecDepth 20000 in
set_option maxHeartbeats 16000000 in
theorem rdecode_any (a : Option Addr) (n cap : Nat) (b : List Int) (w : World) (hn : n = b.length) (hm : n ≤ 3000000) (hb : BytesAt w a b) (hbs : Rec.Bs b) : Calls Tryd.prog 18 #[.slice a n cap] w (RDecPost b w) := by
  obtain ⟨A, hA⟩ : ∃ A, w.heap.size = A := ⟨_, rfl⟩
  obtain ⟨w1, hw1⟩ : ∃ w1, w.alloc (.cells (dv (fun _ => 0) nilV nilV nilV) 26) = w1 := ⟨_, rfl⟩
  have k1 : Below w.heap.size w w1 := by rw [← hw1]; exact (Below.refl _ _).alloc (Nat.le_refl _) _
  have HDB : Hid (DB w1 A (fun _ => 0) nilV nilV nilV) := by rw [← hw1, ← hA]; exact db_new w _ _ _ _
  have HW1 : Hid (w.alloc (.cells (dv (fun _ => 0) nilV nilV nilV) 26) = w1) := hw1
  have HAA : Hid (w.heap.size = A) := hA
  have HK1 : Hid (Below w.heap.size w w1) := k1
  have HB : Hid (BytesAt w a b) := hb
  have HBS : Hid (Rec.Bs b) := hbs
  have HN : Hid (n = b.length) := hn
  have HNO : Hid (∀ u, DB u A (fun _ => 0) nilV nilV nilV → Below w.heap.size w u → DB (u.setRow A (dv (fun _ => 0) nilV nilV nilV)) A (fun _ => 0) nilV nilV nilV ∧ Below w.heap.size w (u.setRow A (dv (fun _ => 0) nilV nilV nilV))) := fun u h1 h2 => ⟨h1.row _ _ _ _, below_row h2 (by omega) _⟩
  have hz := zeroDfa
  clear hw1 hA k1 hb hbs hn
  go_enter Tryd.func18, Tryd.ntmps18
  go_upto_region 1 with fail
  rw [HW1.out, HAA.out]
  clear HW1
  by_cases hlt : n < 274
  · have hlt' : (n : Int) < 274 := by omega
    have HF : Hid (okT b = false) := by
      show _ = _
      cases h : okT b
      · rfl
      · have := (ok_sizes h).1; have := HN.out; omega
    obtain ⟨hres, hbel⟩ := HNO.out w1 HDB.out HK1.out
    have HRES : Hid (DB (w1.setRow A (dv (fun _ => 0) nilV nilV nilV)) A (fun _ => 0) nilV nilV nilV) := hres
    have HBE : Hid (Below w.heap.size w (w1.setRow A (dv (fun _ => 0) nilV nilV nilV))) := hbel
    clear hres hbel
    go_wp2_with (first
      | refine wpList_build_dfa0 rfl rfl ?_
      | refine wpList_store_dfa rfl (.tmp 2) (.tmp 20) rfl HDB.out ⟨rfl, rfl, rfl⟩ rfl rfl ?_)
    exact bodyPost_ret (results_dfa rfl _ _ HRES.out (v := .int .i64 120) rfl rfl) rfl (no_post HF.out rfl HBE.out)
  have hlt' : ¬ (n : Int) < 274 := by omega
  have HNU : Hid (∀ u (p k : Nat), Below w.heap.size w u → 1 ≤ k → k ≤ 4 → p + k ≤ n → Calls Tryd.prog 32 #[.slice a n cap, .int .i64 (p : Nat), .int .i64 (k : Nat)] u fun e w' => e = .returned (.int .i64 (vl b p k : Nat)) ∧ w' = u) := fun u p k hu h1 h2 h3 => rnumber_any a n cap p k b u HN.out (by omega) (bytesAt_later hu HB.out) HBS.out h1 h2 h3
  obtain ⟨S, hS⟩ : ∃ S, rdS b = S := ⟨_, rfl⟩
  obtain ⟨C, hC⟩ : ∃ C, rdC b = C := ⟨_, rfl⟩
  have hSb : S < 4294967296 := by rw [← hS]; have := vl_lt HBS.out 8 4; rw [Rec.pow4] at this; exact this
  have hCb : C < 65536 := by rw [← hC]; exact vl_lt HBS.out 12 2
  have HSS : Hid (rdS b = S) := hS
  have HCC : Hid (rdC b = C) := hC
  have HN1 : Hid (Calls Tryd.prog 32 #[.slice a n cap, .int .i64 ((8 : Nat) : Int), .int .i64 ((4 : Nat) : Int)] w1 fun e w' => e = .returned (.int .i64 (S : Nat)) ∧ w' = w1) := by rw [← hS]; exact HNU.out w1 8 4 HK1.out (by omega) (by omega) (by omega)
  have HN2 : Hid (Calls Tryd.prog 32 #[.slice a n cap, .int .i64 ((12 : Nat) : Int), .int .i64 ((2 : Nat) : Int)] w1 fun e w' => e = .returned (.int .i64 (C : Nat)) ∧ w' = w1) := by rw [← hC]; exact HNU.out w1 12 2 HK1.out (by omega) (by omega) (by omega)
  clear hS hC
  go_wp2_with fail
  refine HN1.out.mono ?_
  rintro e wx ⟨rfl, rfl⟩
  go_wp2_with fail
  refine HN2.out.mono ?_
  rintro e wx2 ⟨rfl, rfl⟩
  clear HN1 HN2
  have HBAD : Hid (¬ (S ≤ 4096 ∧ C ≤ 256 ∧ n = 274 + S * (8 + 2 * C)) → okT b = false) := fun h => by
    cases h2 : okT b
    · rfl
    · obtain ⟨_, g2, g3, g4⟩ := ok_sizes h2
      rw [HSS.out] at g2 g4
      rw [HCC.out] at g3
      unfold rdL at g4
      rw [HCC.out, ← HN.out] at g4
      exact absurd ⟨g2, g3, g4⟩ h
  by_cases h1 : 4096 < S
  · have h1' : (4096 : Int) < (S : Int) := by omega
    have HF : Hid (okT b = false) := HBAD.out (by omega)
    obtain ⟨hres, hbel⟩ := HNO.out wx2 HDB.out HK1.out
    have HRES : Hid (DB (wx2.setRow A (dv (fun _ => 0) nilV nilV nilV)) A (fun _ => 0) nilV nilV nilV) := hres
    have HBE : Hid (Below w.heap.size w (wx2.setRow A (dv (fun _ => 0) nilV nilV nilV))) := hbel
    clear hres hbel
    go_wp2_with (first
      | refine wpList_build_dfa0 rfl rfl ?_
      | refine wpList_store_dfa rfl (.tmp 2) (.tmp 42) rfl HDB.out ⟨rfl, rfl, rfl⟩ rfl rfl ?_)
    exact bodyPost_ret (results_dfa rfl _ _ HRES.out (v := .int .i64 120) rfl rfl) rfl (no_post HF.out rfl HBE.out)
  have h1' : ¬ (4096 : Int) < (S : Int) := by omega
  by_cases h2 : 256 < C
  · have h2' : (256 : Int) < (C : Int) := by omega
    have HF : Hid (okT b = false) := HBAD.out (by omega)
    obtain ⟨hres, hbel⟩ := HNO.out wx2 HDB.out HK1.out
    have HRES : Hid (DB (wx2.setRow A (dv (fun _ => 0) nilV nilV nilV)) A (fun _ => 0) nilV nilV nilV) := hres
    have HBE : Hid (Below w.heap.size w (wx2.setRow A (dv (fun _ => 0) nilV nilV nilV))) := hbel
    clear hres hbel
    go_wp2_with (first
      | refine wpList_build_dfa0 rfl rfl ?_
      | refine wpList_store_dfa rfl (.tmp 2) (.tmp 42) rfl HDB.out ⟨rfl, rfl, rfl⟩ rfl rfl ?_)
    exact bodyPost_ret (results_dfa rfl _ _ HRES.out (v := .int .i64 120) rfl rfl) rfl (no_post HF.out rfl HBE.out)
  have h2' : ¬ (256 : Int) < (C : Int) := by omega
  obtain ⟨M, hM⟩ : ∃ M, S * (8 + 2 * C) = M := ⟨_, rfl⟩
  have hM2 : M ≤ 4096 * 520 := by rw [← hM]; exact Nat.mul_le_mul (by omega) (by omega)
  have hwr1 : IntKind.i64.wrap ((S : Int) * (8 + 2 * (C : Int))) = (M : Int) := by
    have h1 : (S : Int) * (8 + 2 * (C : Int)) = ((S * (8 + 2 * C) : Nat) : Int) := by simp
    rw [h1, hM]
    simp [IntKind.wrap, IntKind.signed, IntKind.bits]
    omega
  obtain ⟨N2, hN2⟩ : ∃ N2, 274 + M = N2 := ⟨_, rfl⟩
  have hw64 : wrap64 (274 + (M : Int)) = (N2 : Int) := by unfold wrap64; omega
  have hw66 : wrap64 (N2 : Int) = (N2 : Int) := by unfold wrap64; omega
  have hd1 : decide ((4096 : Int) < (S : Int)) = false := decide_eq_false h1'
  have hd2 : decide ((256 : Int) < (C : Int)) = false := decide_eq_false h2'
  have HM : Hid (S * (8 + 2 * C) = M) := hM
  have HN2 : Hid (274 + M = N2) := hN2
  have HM2 : Hid (M ≤ 4096 * 520) := hM2
  clear hM hN2 hM2
  by_cases h3 : n = N2
  case neg =>
    have h3' : ((n : Int) != (N2 : Int)) = true := by simp; omega
    have HF : Hid (okT b = false) := HBAD.out (by rw [HM.out]; have := HN2.out; omega)
    obtain ⟨hres, hbel⟩ := HNO.out wx2 HDB.out HK1.out
    have HRES : Hid (DB (wx2.setRow A (dv (fun _ => 0) nilV nilV nilV)) A (fun _ => 0) nilV nilV nilV) := hres
    have HBE : Hid (Below w.heap.size w (wx2.setRow A (dv (fun _ => 0) nilV nilV nilV))) := hbel
    clear hres hbel
    go_wp2_with (first
      | refine wpList_build_dfa0 rfl rfl ?_
      | refine wpList_store_dfa rfl (.tmp 2) (.tmp 42) rfl HDB.out ⟨rfl, rfl, rfl⟩ rfl rfl ?_)
    exact bodyPost_ret (results_dfa rfl _ _ HRES.out (v := .int .i64 120) rfl rfl) rfl (no_post HF.out rfl HBE.out)
  have h3' : ((n : Int) != (N2 : Int)) = false := by simp [h3]
  have HNN : Hid (n = 274 + M) := by show _ = _; have := HN2.out; omega
  clear h3
  obtain ⟨T, hT⟩ : ∃ T, wx2.heap.size = T := ⟨_, rfl⟩
  obtain ⟨w2, hw2⟩ : ∃ w2, wx2.alloc (.cells (dv (fun _ => 0) nilV nilV nilV) 26) = w2 := ⟨_, rfl⟩
  have k2 : Below wx2.heap.size wx2 w2 := by rw [← hw2]; exact (Below.refl _ _).alloc (Nat.le_refl _) _
  have HTA : Hid (A ≠ T) := by have := HDB.out.lt; show A ≠ T; omega
  have HDd : Hid (Dd w w2 T A (fun _ => 0) [] [] nilS nilS nilS [] []) := ⟨fam_none _ _, by rw [← hw2, ← hT]; exact db_new wx2 _ _ _ _, HDB.out.later k2, below_step HK1.out k2, by have := HK1.out.size; omega⟩
  have HW2 : Hid (wx2.alloc (.cells (dv (fun _ => 0) nilV nilV nilV) 26) = w2) := hw2
  have HTT : Hid (wx2.heap.size = T) := hT
  clear hT hw2 k2
  go_upto_region 8 with fail
  rw [HW2.out, HTT.out]
  clear HW2 HTT hw64 hw66 h3' hwr1 hd1 hd2
  go_wp2_with fail
  go_loopw [7] (fun i u => ∃ (k : Nat) (f : Nat → Int), i = .int .i64 (k : Nat) ∧ k ≤ 256 ∧ Hid ((∀ j, j < k → f j = rdCl b j) ∧ ∀ j, 0 ≤ f j ∧ f j < 256) ∧ Hid (Dd w u T A f [] [] nilS nilS nilS [] [])) (fun i _ => 256 - (intOf i).toNat)
  case atStart => exact ⟨0, fun _ => 0, rfl, by omega, ⟨fun j hj => absurd hj (by omega), fun _ => ⟨(by show (0 : Int) ≤ 0; decide), (by show (0 : Int) < 256; decide)⟩⟩, HDd⟩
  case round =>
    obtain ⟨k, f, rfl, hk, HFF, HDK⟩ := hrel
    clear HDd
    by_cases hltk : k < 256
    · have hltk' : (k : Int) < 256 := by omega
      have hkb : 14 + k < b.length := by have := HN.out; omega
      obtain ⟨ab, ao, rfl, hcb⟩ : ∃ ab ao, a = some ⟨ab, ao, none⟩ ∧ ∀ j, j < b.length → wr.cell? ⟨ab, ao + j, none⟩ = some (.int .u8 (b.getD j 0)) := by
        rcases bytesAt_later HDK.out.low HB.out with h | h
        · rw [h] at hkb; simp at hkb
        · exact h
      have hc1 := hcb (14 + k) hkb
      have hbd := Rec.bs_at HBS.out hkb
      have hcl : rdCl b k = b.getD (14 + k) 0 := by
        unfold rdCl
        rw [vl_cons 0 hkb, vl_zero]
        omega
      obtain ⟨z, hz⟩ : ∃ z : Int, b.getD (14 + k) 0 = z := ⟨_, rfl⟩
      rw [hz] at hc1 hbd hcl
      have HCL : Hid (rdCl b k = z) := hcl
      obtain ⟨q, hq⟩ : ∃ q, 14 + k = q := ⟨_, rfl⟩
      rw [hq] at hc1
      have hqi : (14 : Int) + (k : Int) = (q : Int) := by omega
      have hqn : (q : Int) < (n : Int) := by have := HN.out; omega
      have hcell := HDK.out.db.lo hltk
      have hfr := HDK.out.db.frozen k
      clear hcb hkb hz hq hcl
      go_wp2
      go_roundw
      case rel => exact ⟨k + 1, fun j => if j = k then z else f j, by go_num, by omega, cls_step HFF.out HCL.out hbd, HDK.out.cls HTA.out hltk z⟩
      case measure => simp [intOf]; omega
    · have hltk' : ¬ (k : Int) < 256 := by omega
      have HF2 : Hid (∀ j, j < 256 → f j = rdCl b j) := fun j hj => HFF.out.1 j (by omega)
      have HRR : Hid (R64 f) := fun j _ => by have := HFF.out.2 j; omega
      clear HFF
      obtain ⟨w3, hw3⟩ : ∃ w3, wr = w3 := ⟨_, rfl⟩
      rw [hw3] at HDK ⊢
      clear hw3
      obtain ⟨L, hL⟩ : ∃ L, 8 + 2 * C = L := ⟨_, rfl⟩
      have HLL : Hid (rdL b = L) := by show _ = _; unfold rdL; rw [HCC.out]; exact hL
      have HL8 : Hid (8 + 2 * C = L) := hL
      have HSL : Hid (S * L = M) := by show _ = _; rw [← hL]; exact HM.out
      clear hL
      go_wp2_with fail
      go_loopw [8, 9] (fun at_ i u => ∃ (s : Nat) (rows : List (Value × List Int)) (V1 V2 V3 : Value), i = .int .i64 (s : Nat) ∧ s ≤ S ∧ at_ = .int .i64 ((270 + s * L : Nat) : Int) ∧ Hid (Dd w u T A f rows (rows.map Prod.fst) V1 V2 V3 ((List.range s).map (rdF b)) ((List.range s).map (rdE b))) ∧ Hid (rows.map Prod.snd = (List.range s).map (rdRow b))) (fun _ i _ => S - (intOf i).toNat)
      case atStart => exact ⟨0, [], nilS, nilS, nilS, rfl, by omega, by simp, HDK, rfl⟩
      case round =>
        obtain ⟨s, rows, V1, V2, V3, rfl, hs, rfl, HD, HRW⟩ := hrel
        clear HDK
        by_cases hlts : s < S
        · have hlts' : (s : Int) < (S : Int) := by omega
          obtain ⟨o, ho⟩ : ∃ o, 270 + s * L = o := ⟨_, rfl⟩
          have hoL : o + L ≤ 270 + M := by
            have h1 : (s + 1) * L ≤ S * L := Nat.mul_le_mul_right _ hlts
            rw [Nat.succ_mul, HSL.out] at h1
            omega
          have hoN : o + L + 4 ≤ n := by have := HNN.out; omega
          have hon : o ≤ 3000000 := by omega
          have HO : Hid (270 + s * rdL b = o) := by show _ = _; rw [HLL.out]; exact ho
          have HO2 : Hid (270 + (s + 1) * L = o + 8 + 2 * C) := by show _ = _; rw [Nat.succ_mul]; have := HL8.out; omega
          rw [ho]
          have hCL : o + 2 * C + 12 ≤ n := by have := HL8.out; omega
          have HRL : Hid (rows.length = s) := by
            show _ = _
            have := congrArg List.length HRW.out
            simpa using this
          clear ho hoL hoN
          obtain ⟨wo, hwo⟩ : ∃ wo, wr = wo := ⟨_, rfl⟩
          rw [hwo] at HD ⊢
          clear hwo
          go_wp2_with fail
          go_loopw [8, 10, 11] (fun at_ l i u => ∃ c : Nat, i = .int .i64 (c : Nat) ∧ c ≤ C ∧ at_ = .int .i64 ((o + 2 * c : Nat) : Int) ∧ Hid (Dd w u T A f (rows ++ [(l, (rdRow b s).take c)]) (rows.map Prod.fst) V1 V2 V3 ((List.range s).map (rdF b)) ((List.range s).map (rdE b)))) (fun _ _ i _ => C - (intOf i).toNat)
          case atStart =>
            refine ⟨0, rfl, by omega, by simp, ?_⟩
            have h := HD.out
            refine ⟨?_, h.db, h.res, h.low, h.hT⟩
            have h2 := h.fam.nil (7 + rows.length) 3
            have e := fm_more [] rows (V1, rows.map Prod.fst) (V2, (List.range s).map (rdF b)) (V3, (List.range s).map (rdE b)) (.slice none 0 0) []
            rw [show ints [] = [] from rfl] at e
            rw [e] at h2
            exact h2
          case round =>
            obtain ⟨c, rfl, hc, rfl, HDc⟩ := hrel
            obtain ⟨wi, hwi⟩ : ∃ wi, wr = wi := ⟨_, rfl⟩
            rw [hwi] at HDc ⊢
            clear hwi
            by_cases hltc : c < C
            · have hltc' : (c : Int) < (C : Int) := by omega
              obtain ⟨q, hq⟩ : ∃ q, o + 2 * c = q := ⟨_, rfl⟩
              obtain ⟨x, hx⟩ : ∃ x, vl b q 2 = x := ⟨_, rfl⟩
              have HNX : Hid (Calls Tryd.prog 32 #[.slice a n cap, .int .i64 (q : Nat), .int .i64 ((2 : Nat) : Int)] wi fun e w' => e = .returned (.int .i64 (x : Nat)) ∧ w' = wi) := by rw [← hx]; exact HNU.out wi q 2 HDc.out.low (by omega) (by omega) (by omega)
              have HTK : Hid ((rdRow b s).take (c + 1) = (rdRow b s).take c ++ [(x : Int)]) := by
                show _ = _
                rw [rdRow_take b s (by rw [HCC.out]; exact hltc), HO.out, show o + c * 2 = q by omega, hx]
              have HLT : Hid (((rdRow b s).take c).length ≤ 256) := by show _ ≤ _; rw [List.length_take]; omega
              have hqb : q ≤ 4000000 := by omega
              have HQ2 : Hid (o + 2 * (c + 1) = q + 2) := by show _ = _; omega
              rw [hq]
              clear hq hx
              go_wp2_with fail
              refine HNX.out.mono ?_
              rintro e wj ⟨rfl, hwj⟩
              rw [hwj]
              clear hwj HNX
              have HAL : Hid (∀ ob : Obj, Below wi.heap.size wi (wi.alloc ob)) := fun ob => (Below.refl _ _).alloc (Nat.le_refl _) _
              have hidx : fm [] (rows ++ [(u10, (rdRow b s).take c)]) (V1, rows.map Prod.fst) (V2, (List.range s).map (rdF b)) (V3, (List.range s).map (rdE b)) (7 + rows.length) = some (3, u10, ints ((rdRow b s).take c)) := by rw [fm_at7]; simp
              have HIX : Hid (fm [] (rows ++ [(u10, (rdRow b s).take c)]) (V1, rows.map Prod.fst) (V2, (List.range s).map (rdF b)) (V3, (List.range s).map (rdE b)) (7 + rows.length) = some (3, u10, ints ((rdRow b s).take c))) := hidx
              clear hidx
              go_upto_region 22 with (at_builtin; refine wpList_append_famg rfl (.tmp 69) (.tmp 71) rfl (.int .i64 0) 8 Tryd.underlying41 infI rfl w.heap.size _ ((HDc.out.later (HAL.out _)).fam) (by have := HDc.out.low.size; have := (HAL.out (.cells #[.int .i64 (x : Nat)] 3)).size; omega) (7 + rows.length) u10 (ints ((rdRow b s).take c)) HIX.out rfl _ [.int .i64 (x : Nat)] rfl (lat_lit _ _ _ _) (fun y hy => by simp at hy; subst hy; rfl) (by rw [ints_len]; have := HLT.out; simp; omega) (by decide) ?_; intro l2 w5 hf5 hg5 hn5; have hs5 := (HDc.out.later (HAL.out _)).side HIX.out hg5; rw [ints_snoc, ← HTK.out, fm_row _ _ _ _ _ (by simp)] at hf5)
              have HD5 : Hid (Dd w w5 T A f (rows ++ [(l2, (rdRow b s).take (c + 1))]) (rows.map Prod.fst) V1 V2 V3 ((List.range s).map (rdF b)) ((List.range s).map (rdE b))) := by
                have e : (rows ++ [(u10, (rdRow b s).take c)]).set rows.length (l2, (rdRow b s).take (c + 1)) = rows ++ [(l2, (rdRow b s).take (c + 1))] := by simp
                rw [e] at hf5
                exact ⟨hf5, hs5.1, hs5.2.1, hs5.2.2, HDc.out.hT⟩
              clear hf5 hg5 hn5 hs5 HAL HIX HDc
              go_wp2
              go_roundw
              case rel => exact ⟨c + 1, by go_num, by omega, by rw [HQ2.out]; go_num, HD5⟩
              case measure => simp [intOf]; omega
            · have hltc' : ¬ (c : Int) < (C : Int) := by omega
              have hcC : c = C := by omega
              have htk : (rdRow b s).take c = rdRow b s := List.take_of_length_le (by rw [rdRow_len, HCC.out]; omega)
              rw [htk] at HDc
              have hq : o + 2 * c = o + 2 * C := by omega
              rw [hq]
              obtain ⟨q, hq2⟩ : ∃ q, o + 2 * C = q := ⟨_, rfl⟩
              have hqb : q + 12 ≤ n := by omega
              have HQ : Hid (o + 2 * C = q) := hq2
              rw [hq2]
              clear htk hq hq2 hcC HD
              obtain ⟨lv, hlv⟩ : ∃ lv, u10 = lv := ⟨_, rfl⟩
              rw [hlv] at HDc ⊢
              clear hlv
              have hl1 : lv.oneCell' = true := own_1 (HDc.out.fam.own (7 + rows.length) 3 lv (ints (rdRow b s)) (by rw [fm_at7]; simp))
              have HL1 : Hid (lv.oneCell' = true) := hl1
              have q1 := HDc.out.db.hi.1
              obtain ⟨x1, y1, ex1, -, -⟩ := own_f (HDc.out.fam.own 4 _ _ _ (fm_at4 _ _ _ _ _))
              have hxl : (rows.map Prod.fst).length = s := by rw [List.length_map]; exact HRL.out
              simp only at ex1
              rw [hxl] at ex1
              have HE1 : Hid (V1 = .slice x1 s y1) := ex1
              rw [ex1] at q1
              obtain ⟨al, cl', el, -, -⟩ := own_f (HDc.out.fam.own (7 + rows.length) 3 lv (ints (rdRow b s)) (by rw [fm_at7]; simp))
              subst el
              have HXL : Hid ((rows.map Prod.fst).length = s) := hxl
              have HAL : Hid (∀ ob : Obj, Below wi.heap.size wi (wi.alloc ob)) := fun ob => (Below.refl _ _).alloc (Nat.le_refl _) _
              clear hl1 hxl ex1
              go_upto_region 24 with (at_builtin; refine wpList_append_famg rfl (.tmp 76) (.tmp 78) rfl (.slice none 0 0) 24 Tryd.underlying23 infR rfl w.heap.size _ ((HDc.out.later (HAL.out _)).fam) (by have := HDc.out.low.size; have := (HAL.out (.cells #[.slice al (ints (rdRow b s)).length cl'] 41)).size; omega) 4 V1 (rows.map Prod.fst) (fm_at4 _ _ _ _ _) (by rw [HE1.out]; rfl) _ [.slice al (ints (rdRow b s)).length cl'] rfl (lat_lit _ _ _ _) (fun y hy => by simp at hy; subst hy; rfl) (by rw [HXL.out]; simp; omega) (by decide) ?_; intro N1 w5 hf5 hg5 hn5; have hs5 := (HDc.out.later (HAL.out _)).side (fm_at4 _ _ _ _ _) hg5; rw [fm_nx] at hf5; have HD5 : Hid (Dd w (w5.setCell ⟨T, 256, none⟩ N1) T A f (rows ++ [(.slice al (ints (rdRow b s)).length cl', rdRow b s)]) (rows.map Prod.fst ++ [.slice al (ints (rdRow b s)).length cl']) N1 V2 V3 ((List.range s).map (rdF b)) ((List.range s).map (rdE b))) := dd_mk1 hf5 hs5 HDc.out.hT HTA.out; have hcx : w5.cell? ⟨T, 256, none⟩ = some (.slice x1 s y1) ∧ w5.frozen? ⟨T, 256, none⟩ = false := ⟨by rw [← HE1.out]; exact hs5.1.hi.1, hs5.1.frozen _⟩; obtain ⟨hca, hcb⟩ := hcx; obtain ⟨nx, ny, en1, -, -⟩ := own_f (hf5.own 4 _ _ _ (fm_at4 _ _ _ _ _)); simp only at en1; subst en1; obtain ⟨Ln, hLn⟩ : ∃ Ln, (rows.map Prod.fst ++ [Value.slice al (ints (rdRow b s)).length cl']).length = Ln := ⟨_, rfl⟩; rw [hLn] at HD5 ⊢; clear hf5 hg5 hn5 hs5 hLn)
              obtain ⟨w6, hw6⟩ : ∃ w6, w5.setCell ⟨T, 256, none⟩ (.slice nx Ln ny) = w6 := ⟨_, rfl⟩
              rw [hw6] at HD5 ⊢
              clear hw6 hca hcb HAL q1 HDc
              obtain ⟨N1, hN1⟩ : ∃ N1, Value.slice nx Ln ny = N1 := ⟨_, rfl⟩
              rw [hN1] at HD5 ⊢
              clear hN1
              obtain ⟨rows2, hr2⟩ : ∃ rows2, rows ++ [(Value.slice al (ints (rdRow b s)).length cl', rdRow b s)] = rows2 := ⟨_, rfl⟩
              have hXs : rows.map Prod.fst ++ [Value.slice al (ints (rdRow b s)).length cl'] = rows2.map Prod.fst := by rw [← hr2]; simp
              have HRW2 : Hid (rows2.map Prod.snd = (List.range (s + 1)).map (rdRow b)) := by
                show _ = _
                rw [← hr2, map_snoc, ← HRW.out]
                simp
              rw [hr2, hXs] at HD5
              clear hr2 hXs
              obtain ⟨xF, hxF⟩ : ∃ xF, vl b q 4 = xF := ⟨_, rfl⟩
              obtain ⟨xE, hxE⟩ : ∃ xE, vl b (q + 4) 4 = xE := ⟨_, rfl⟩
              have hxFb : xF < 4294967296 := by rw [← hxF]; have := vl_lt HBS.out q 4; rw [Rec.pow4] at this; exact this
              have hxEb : xE < 4294967296 := by rw [← hxE]; have := vl_lt HBS.out (q + 4) 4; rw [Rec.pow4] at this; exact this
              have HXF : Hid (rdF b s = xF) := by show _ = _; unfold rdF; rw [HO.out, HCC.out, HQ.out]; exact hxF
              have HXE : Hid (rdE b s = xE) := by show _ = _; unfold rdE; rw [HO.out, HCC.out, HQ.out]; exact hxE
              have HNF : Hid (Calls Tryd.prog 32 #[.slice a n cap, .int .i64 (q : Nat), .int .i64 ((4 : Nat) : Int)] w6 fun e w' => e = .returned (.int .i64 (xF : Nat)) ∧ w' = w6) := by rw [← hxF]; exact HNU.out w6 q 4 HD5.out.low (by omega) (by omega) (by omega)
              obtain ⟨q4, hq4⟩ : ∃ q4, q + 4 = q4 := ⟨_, rfl⟩
              have hq4i : (q : Int) + 4 = (q4 : Int) := by omega
              have HNG : Hid (Calls Tryd.prog 32 #[.slice a n cap, .int .i64 (q4 : Nat), .int .i64 ((4 : Nat) : Int)] w6 fun e w' => e = .returned (.int .i64 (xE : Nat)) ∧ w' = w6) := by rw [← hxE, hq4]; exact HNU.out w6 q4 4 HD5.out.low (by omega) (by omega) (by omega)
              clear hxF hxE
              go_wp2_with fail
              refine HNF.out.mono ?_
              rintro e wj ⟨rfl, hwj⟩
              rw [hwj]
              clear hwj HNF
              go_wp2_with fail
              refine HNG.out.mono ?_
              rintro e wj ⟨rfl, hwj⟩
              rw [hwj]
              clear hwj HNG
              have q2 := HD5.out.db.hi.2.1
              obtain ⟨x2, y2, ex2, -, -⟩ := own_f (HD5.out.fam.own 5 _ _ _ (fm_at5 _ _ _ _ _))
              simp only [u32s_len, List.length_map, List.length_range] at ex2
              have HE2 : Hid (V2 = .slice x2 s y2) := ex2
              rw [ex2] at q2
              clear ex2
              have HAL : Hid (∀ ob : Obj, Below w6.heap.size w6 (w6.alloc ob)) := fun ob => (Below.refl _ _).alloc (Nat.le_refl _) _
              have hmF : (xF : Int) % 4294967296 = (xF : Int) := by omega
              go_upto_region 27 with (at_builtin; refine wpList_append_famg rfl (.tmp 89) (.tmp 92) rfl (.int .u32 0) 4 Tryd.underlying24 infU rfl w.heap.size _ ((HD5.out.later (HAL.out _)).fam) (by have := HD5.out.low.size; have := (HAL.out (.cells #[.int .u32 (xF : Nat)] 27)).size; omega) 5 V2 (u32s ((List.range s).map (rdF b))) (fm_at5 _ _ _ _ _) (by rw [HE2.out]; rfl) _ [.int .u32 (xF : Nat)] rfl (lat_lit _ _ _ _) (fun y hy => by simp at hy; subst hy; rfl) (by rw [u32s_len]; simp; omega) (by decide) ?_; intro N2' w7 hf7 hg7 hn7; have hs7 := (HD5.out.later (HAL.out _)).side (fm_at5 _ _ _ _ _) hg7; rw [u32s_snoc, fm_fo, ← HXF.out, ← map_snoc] at hf7; have HD7 : Hid (Dd w (w7.setCell ⟨T, 257, none⟩ N2') T A f rows2 (rows2.map Prod.fst) N1 N2' V3 ((List.range (s + 1)).map (rdF b)) ((List.range s).map (rdE b))) := dd_mk2 hf7 hs7 HD5.out.hT HTA.out; have hcx : w7.cell? ⟨T, 257, none⟩ = some (.slice x2 s y2) ∧ w7.frozen? ⟨T, 257, none⟩ = false := ⟨by rw [← HE2.out]; exact hs7.1.hi.2.1, hs7.1.frozen _⟩; obtain ⟨hca, hcb⟩ := hcx; obtain ⟨fx, fy, ef1, -, -⟩ := own_f (hf7.own 5 _ _ _ (fm_at5 _ _ _ _ _)); simp only at ef1; subst ef1; obtain ⟨Lf, hLf⟩ : ∃ Lf, (u32s ((List.range (s + 1)).map (rdF b))).length = Lf := ⟨_, rfl⟩; rw [hLf] at HD7 ⊢; clear hf7 hg7 hn7 hs7 hLf)
              obtain ⟨w8, hw8⟩ : ∃ w8, w7.setCell ⟨T, 257, none⟩ (.slice fx Lf fy) = w8 := ⟨_, rfl⟩
              rw [hw8] at HD7 ⊢
              clear hw8 hca hcb HAL q2 HD5
              obtain ⟨N2v, hN2v⟩ : ∃ N2v, Value.slice fx Lf fy = N2v := ⟨_, rfl⟩
              rw [hN2v] at HD7 ⊢
              clear hN2v
              have q3 := HD7.out.db.hi.2.2
              obtain ⟨x3, y3, ex3, -, -⟩ := own_f (HD7.out.fam.own 6 _ _ _ (fm_at6 _ _ _ _ _))
              simp only [u32s_len, List.length_map, List.length_range] at ex3
              have HE3 : Hid (V3 = .slice x3 s y3) := ex3
              rw [ex3] at q3
              clear ex3
              have HAL : Hid (∀ ob : Obj, Below w8.heap.size w8 (w8.alloc ob)) := fun ob => (Below.refl _ _).alloc (Nat.le_refl _) _
              have hmE : (xE : Int) % 4294967296 = (xE : Int) := by omega
              go_upto_region 28 with (at_builtin; refine wpList_append_famg rfl (.tmp 96) (.tmp 99) rfl (.int .u32 0) 4 Tryd.underlying24 infU rfl w.heap.size _ ((HD7.out.later (HAL.out _)).fam) (by have := HD7.out.low.size; have := (HAL.out (.cells #[.int .u32 (xE : Nat)] 27)).size; omega) 6 V3 (u32s ((List.range s).map (rdE b))) (fm_at6 _ _ _ _ _) (by rw [HE3.out]; rfl) _ [.int .u32 (xE : Nat)] rfl (lat_lit _ _ _ _) (fun y hy => by simp at hy; subst hy; rfl) (by rw [u32s_len]; simp; omega) (by decide) ?_; intro N3' w9 hf9 hg9 hn9; have hs9 := (HD7.out.later (HAL.out _)).side (fm_at6 _ _ _ _ _) hg9; rw [u32s_snoc, fm_en, ← HXE.out, ← map_snoc] at hf9; have HD9 : Hid (Dd w (w9.setCell ⟨T, 258, none⟩ N3') T A f rows2 (rows2.map Prod.fst) N1 N2v N3' ((List.range (s + 1)).map (rdF b)) ((List.range (s + 1)).map (rdE b))) := dd_mk3 hf9 hs9 HD7.out.hT HTA.out; have hcx : w9.cell? ⟨T, 258, none⟩ = some (.slice x3 s y3) ∧ w9.frozen? ⟨T, 258, none⟩ = false := ⟨by rw [← HE3.out]; exact hs9.1.hi.2.2, hs9.1.frozen _⟩; obtain ⟨hca, hcb⟩ := hcx; obtain ⟨gx, gy, eg1, -, -⟩ := own_f (hf9.own 6 _ _ _ (fm_at6 _ _ _ _ _)); simp only at eg1; subst eg1; obtain ⟨Lg, hLg⟩ : ∃ Lg, (u32s ((List.range (s + 1)).map (rdE b))).length = Lg := ⟨_, rfl⟩; rw [hLg] at HD9 ⊢; clear hf9 hg9 hn9 hs9 hLg)
              obtain ⟨w10, hw10⟩ : ∃ w10, w9.setCell ⟨T, 258, none⟩ (.slice gx Lg gy) = w10 := ⟨_, rfl⟩
              rw [hw10] at HD9 ⊢
              clear hw10 hca hcb HAL q3 HD7
              obtain ⟨N3v, hN3v⟩ : ∃ N3v, Value.slice gx Lg gy = N3v := ⟨_, rfl⟩
              rw [hN3v] at HD9 ⊢
              clear hN3v
              have HO3 : Hid (270 + (s + 1) * L = q + 8) := by show _ = _; rw [HO2.out]; have := HQ.out; omega
              go_wp2
              go_roundw
              case rel => exact ⟨s + 1, rows2, _, _, _, by go_num, by omega, by rw [HO3.out]; go_num, HD9, HRW2⟩
              case measure => simp [intOf]; omega
        · have hlts' : ¬ (s : Int) < (S : Int) := by omega
          have hsS : s = S := by omega
          obtain ⟨w4, hw4⟩ : ∃ w4, wr = w4 := ⟨_, rfl⟩
          rw [hw4] at HD ⊢
          clear hw4
          obtain ⟨d, hd⟩ : ∃ d : Dt, d = ⟨f, rows.map Prod.snd, (List.range s).map (rdF b), (List.range s).map (rdE b)⟩ := ⟨_, rfl⟩
          have hfb : ∀ x ∈ (List.range s).map (rdF b), x < 4294967296 := fun x hx => by
            obtain ⟨t, _, rfl⟩ := List.mem_map.1 hx
            have := vl_lt HBS.out (270 + t * rdL b + 2 * rdC b) 4
            rw [Rec.pow4] at this
            exact this
          have heb : ∀ x ∈ (List.range s).map (rdE b), x < 4294967296 := fun x hx => by
            obtain ⟨t, _, rfl⟩ := List.mem_map.1 hx
            have := vl_lt HBS.out (270 + t * rdL b + 2 * rdC b + 4) 4
            rw [Rec.pow4] at this
            exact this
          have HDF : Hid (DfAt w4 d V1 V2 V3 (rows.map Prod.fst)) := by rw [hd]; exact HD.out.df hfb heb
          have HSM : Hid (sameD d (rdT (frontB b))) := by
            rw [hd, HRW.out, hsS, ← HSS.out]
            exact same_front (by have := HN.out; omega) (by rw [← HN.out, HNN.out, HSS.out, HLL.out, HSL.out]) HF2.out
          have hdc : f = d.cl := by rw [hd]
          have HRD : Hid (R64 d.cl) := by rw [← hdc]; exact HRR.out
          have HDB4 : Hid (DB w4 T d.cl V1 V2 V3) := by rw [← hdc]; exact HD.out.db
          have HRZ : Hid (DB w4 A (fun _ => 0) nilV nilV nilV) := HD.out.res
          have HLW : Hid (Below w.heap.size w w4) := HD.out.low
          have HTW : Hid (w.heap.size ≤ T) := HD.out.hT
          have HONE : Hid (V1.oneCell' = true ∧ V2.oneCell' = true ∧ V3.oneCell' = true) := HDF.out.ones
          have HFM : Hid (Fam w.heap.size w4 (fm [] rows (V1, rows.map Prod.fst) (V2, (List.range s).map (rdF b)) (V3, (List.range s).map (rdE b)))) := HD.out.fam
          have HMK : Hid (∀ u, Fam w.heap.size u (fm [] rows (V1, rows.map Prod.fst) (V2, (List.range s).map (rdF b)) (V3, (List.range s).map (rdE b))) → DfAt u d V1 V2 V3 (rows.map Prod.fst)) := fun u hu => by rw [hd]; exact fam_df hu hfb heb
          have HRE : Hid (Calls Tryd.prog 14 #[.agg (dv d.cl V1 V2 V3)] w4 (EncPost d w4)) := rencode_any d V1 V2 V3 _ w4 HDF.out HRD.out
          clear hd hfb heb hdc HD HRW hsS
          go_wp2_with (refine wpList_load_dfa rfl (.tmp 6) rfl HDB4.out rfl ?_)
          refine HRE.out.mono ?_
          rintro e w5 ⟨⟨v, rfl, hO⟩, k5⟩
          have HD5 : Hid (DB w5 T d.cl V1 V2 V3) := HDB4.out.later k5
          have HR5 : Hid (DB w5 A (fun _ => 0) nilV nilV nilV) := HRZ.out.later k5
          have HL5 : Hid (Below w.heap.size w w5) := below_step HLW.out k5
          have HF5 : Hid (Fam w.heap.size w5 (fm [] rows (V1, rows.map Prod.fst) (V2, (List.range s).map (rdF b)) (V3, (List.range s).map (rdE b)))) := HFM.out.later k5
          have HOK : Hid (okT b = (rightT d && decide (imgT d = b))) := by show _ = _; rw [HSM.out.right, HSM.out.img]; exact ok_again HBS.out
          clear k5 HRE HDB4 HRZ HLW HDF
          cases hr : rightT d with
          | false =>
            have HF : Hid (okT b = false) := by show _ = _; rw [HOK.out, hr]; rfl
            rw [hr, if_neg (by decide)] at hO
            obtain rfl : v = .slice none 0 0 := hO.2.1 rfl
            obtain ⟨hres, hbel⟩ := HNO.out w5 HR5.out HL5.out
            have HRES : Hid (DB (w5.setRow A (dv (fun _ => 0) nilV nilV nilV)) A (fun _ => 0) nilV nilV nilV) := hres
            have HBE : Hid (Below w.heap.size w (w5.setRow A (dv (fun _ => 0) nilV nilV nilV))) := hbel
            clear hres hbel hO
            go_wp2_with (first
              | refine wpList_build_dfa0 rfl rfl ?_
              | refine wpList_store_dfa rfl (.tmp 2) (.tmp 118) rfl HR5.out ⟨rfl, rfl, rfl⟩ rfl rfl ?_)
            exact bodyPost_ret (results_dfa rfl _ _ HRES.out (v := .int .i64 120) rfl rfl) rfl (no_post HF.out rfl HBE.out)
          | true =>
            rw [hr, if_pos rfl] at hO
            obtain ⟨a5, c5, e5, hb5, -, -, -, -⟩ := hO.form
            subst e5
            have hv1 := conv_string w5 a5 (imgT d).length c5 (imgT d) rfl hb5
            have hv2 := conv_string w5 a n cap b HN.out (bytesAt_later HL5.out HB.out)
            obtain ⟨s1, hs1⟩ : ∃ s1, strOfNums (imgT d) = s1 := ⟨_, rfl⟩
            obtain ⟨s2, hs2⟩ : ∃ s2, strOfNums b = s2 := ⟨_, rfl⟩
            have HEQ : Hid (imgT d = b ↔ s1 = s2) := ⟨fun h => by rw [← hs1, ← hs2, h], fun h => strOf_inj (bs_imgT d) HBS.out (by rw [hs1, hs2, h])⟩
            rw [hs1] at hv1
            rw [hs2] at hv2
            obtain ⟨li, hli⟩ : ∃ li, (imgT d).length = li := ⟨_, rfl⟩
            rw [hli] at hv1 ⊢
            clear hO hb5 hs1 hs2 hli
            by_cases hss : s1 = s2
            · have HT2 : Hid (okT b = true) := by show _ = _; rw [HOK.out, hr, decide_eq_true (HEQ.out.2 hss)]; rfl
              subst hss
              have HRES : Hid (DB (w5.setRow A (dv d.cl V1 V2 V3)) A d.cl V1 V2 V3) := HR5.out.row _ _ _ _
              have HBE : Hid (Below w.heap.size w (w5.setRow A (dv d.cl V1 V2 V3))) := below_row HL5.out (by have := HAA.out; omega) _
              have HF6 : Hid (DfAt (w5.setRow A (dv d.cl V1 V2 V3)) d V1 V2 V3 (rows.map Prod.fst)) := HMK.out _ (HF5.out.keep (fun i t y ys b' hi hb' => heap_row _ _ _ _ (fun e => by
                have h1 := (own_at (HF5.out.own i t y ys hi) b' hb').2.2
                rw [e] at h1
                exact fm_types hi (TyB.ne h1 HR5.out.ty))))
              go_wp2_with (first
                | refine wpList_load_dfa rfl (.tmp 6) rfl HD5.out rfl ?_
                | refine wpList_store_dfa rfl (.tmp 2) (.tmp 119) rfl HR5.out HONE.out rfl rfl ?_)
              refine bodyPost_ret (results_dfa rfl _ _ HRES.out (v := .int .i64 0) rfl rfl) rfl ⟨d, V1, V2, V3, rows.map Prod.fst, by rw [HT2.out]; rfl, ?_, HRD.out, by unfold decT; rw [HT2.out]; exact HSM.out, HBE.out⟩
              exact HF6.out
            · have HF : Hid (okT b = false) := by show _ = _; rw [HOK.out, decide_eq_false (fun h => hss (HEQ.out.1 h))]; simp
              have hss2 : (s1.toList == s2.toList) = false := by rw [beq_bytes, decide_eq_false hss]
              obtain ⟨hres, hbel⟩ := HNO.out w5 HR5.out HL5.out
              have HRES : Hid (DB (w5.setRow A (dv (fun _ => 0) nilV nilV nilV)) A (fun _ => 0) nilV nilV nilV) := hres
              have HBE : Hid (Below w.heap.size w (w5.setRow A (dv (fun _ => 0) nilV nilV nilV))) := hbel
              clear hres hbel
              go_wp2_with (first
                | refine wpList_build_dfa0 rfl rfl ?_
                | refine wpList_store_dfa rfl (.tmp 2) (.tmp 118) rfl HR5.out ⟨rfl, rfl, rfl⟩ rfl rfl ?_)
              exact bodyPost_ret (results_dfa rfl _ _ HRES.out (v := .int .i64 120) rfl rfl) rfl (no_post HF.out rfl HBE.out)
end Go.Proofs.YtdngileimmgdnaaDoor
