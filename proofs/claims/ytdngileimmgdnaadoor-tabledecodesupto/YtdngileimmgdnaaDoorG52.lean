/- The walk of heronlaw12.TableDecodes. -/
import Derived.Test.YtdngileimmgdnaaDoorG51
namespace Go.Proofs.YtdngileimmgdnaaDoor
open Go Go.RowKit
attribute [local go_sem ↓] Go.wp_at_zero Go.wp_at_succ

set_option maxRecDepth 20000 in
set_option maxHeartbeats 16000000 in
theorem decodes_any (a : Option Addr) (n cap : Nat) (b : List Int) (w : World) (hn : n = b.length) (_hc : n ≤ cap) (hm : n ≤ 1048576) (hb : BytesAt w a b) (hbs : Rec.Bs b) (hT : Tab w) (h0 : 0 < w.heap.size) :
    Calls Tryd.prog 6 #[.slice a n cap] w fun e w' => e = .returned (.bool true) ∧ Below w.heap.size w w' := by
  have HT : Hid (∀ u, Below w.heap.size w u → Tab u ∧ 0 < u.heap.size) := fun u hu => ⟨tab_below hu h0 hT, by have := hu.size; omega⟩
  have HB : Hid (BytesAt w a b) := hb
  have HBS : Hid (Rec.Bs b) := hbs
  have HN : Hid (n = b.length) := hn
  clear hb hbs hT hn
  go_enter Tryd.func6, Tryd.ntmps6
  go_wp2_with fail
  refine (known_any w (HT.out w (Below.refl _ _)).1 (HT.out w (Below.refl _ _)).2).mono ?_
  rintro e w1 ⟨rfl, k1⟩
  have HK1 : Hid (Below w.heap.size w w1) := k1
  have HRD : Hid (Calls Tryd.prog 18 #[.slice a n cap] w1 (RDecPost b w1)) := rdecode_any a n cap b w1 HN.out (by omega) (bytesAt_later k1 HB.out) HBS.out
  clear k1
  go_wp2_with fail
  refine HRD.out.mono ?_
  rintro e w2 ⟨dw, W1, W2, W3, Xw, rfl, hdw, hrw, hsw, k2⟩
  obtain ⟨ev, hev⟩ : ∃ ev : Int, (if okT b = true then (0 : Int) else 120) = ev := ⟨_, rfl⟩
  have HEV : Hid ((if okT b = true then (0 : Int) else 120) = ev) := hev
  rw [hev]
  have HK2 : Hid (Below w.heap.size w w2) := below_step HK1.out k2
  have HONE : Hid (W1.oneCell' = true ∧ W2.oneCell' = true ∧ W3.oneCell' = true) := hdw.ones
  have HRW : Hid (R64 dw.cl) := hrw
  have HSW : Hid (sameD dw (decT b)) := hsw
  obtain ⟨P3, hP⟩ : ∃ E, w2.heap.size = E := ⟨_, rfl⟩
  obtain ⟨w2', hw5⟩ : ∃ w5, w2.alloc (.cells (dv (fun _ => 0) nilV nilV nilV) 26) = w5 := ⟨_, rfl⟩
  have k5 : Below w2.heap.size w2 w2' := by rw [← hw5]; exact (Below.refl _ _).alloc (Nat.le_refl _) _
  have d5 : DB w2' P3 (fun _ => 0) nilV nilV nilV := by rw [← hw5, ← hP]; exact db_new w2 _ _ _ _
  obtain ⟨w3, hw6⟩ : ∃ w6, w2'.setRow P3 (dv dw.cl W1 W2 W3) = w6 := ⟨_, rfl⟩
  have k6 : Below w2.heap.size w2 w3 := by rw [← hw6]; exact below_row k5 (by omega) _
  have HD3 : Hid (DB w3 P3 dw.cl W1 W2 W3) := by rw [← hw6]; exact d5.row _ _ _ _
  have HDW : Hid (DfAt w3 dw W1 W2 W3 Xw) := hdw.later k6
  have HK3 : Hid (Below w.heap.size w w3) := below_step HK2.out k6
  have HW5 : Hid (w2.alloc (.cells (dv (fun _ => 0) nilV nilV nilV) 26) = w2') := hw5
  have HW6 : Hid (w2'.setRow P3 (dv dw.cl W1 W2 W3) = w3) := hw6
  have HEE : Hid (w2.heap.size = P3) := hP
  have hz := zeroDfa
  clear hP hw5 hw6 k5 k6 d5 hdw hrw hsw k2 hev HRD HK1 HK2
  go_upto_region 4 with (refine wpList_store_dfa rfl (.tmp 3) (.tmp 34) rfl (db_new w2 (fun _ => 0) nilV nilV nilV) HONE.out rfl rfl ?_; rw [HW5.out, HEE.out, HW6.out])
  clear HW5 HW6 HEE HONE
  have HB3 : Hid (BytesAt w3 a b) := bytesAt_later HK3.out HB.out
  go_upto_region 6 with (at_builtin; refine wpList_append_bytesN rfl (.tmp 36) (.tmp 37) rfl w3 _ [] rfl (ownsN_nil w3 w3.heap.size) (Below.refl _ _) a cap n b HN.out rfl HB3.out (by have := HN.out; simp; omega) ?_; intro m1 w4 ho4 hb4; rw [List.nil_append] at ho4)
  have HO4 : Hid (OwnsN w4 w3.heap.size m1 b) := ho4
  have HB4 : Hid (Below w3.heap.size w3 w4) := hb4
  obtain ⟨ma, mc, em, -, -, -, -, -⟩ := ho4.form
  rw [← HN.out] at em
  subst em
  clear ho4 hb4
  have HAL : Hid (∀ ob : Obj, Below w4.heap.size w4 (w4.alloc ob)) := fun ob => (Below.refl _ _).alloc (Nat.le_refl _) _
  go_upto_region 7 with (at_builtin; refine wpList_append_bytesN rfl (.tmp 39) (.tmp 40) rfl w3 _ b rfl (HO4.out.later (HAL.out _)) (below_step HB4.out (HAL.out _)) _ 1 1 [165] rfl rfl (bytesAt_new w4 [165] 5 (0, 0)) (by have := HN.out; simp; omega) ?_; intro m2 w5 ho5 hb5)
  have hne5 : b ++ [165] ≠ [] := by simp
  obtain ⟨gm, cm, em, hgm, -, hbm, hcm5, hcmx, -⟩ := (ho5.owns hne5).form
  have hl5 : (b ++ [(165 : Int)]).length = n + 1 := by rw [List.length_append, ← HN.out]; rfl
  rw [hl5] at em hcm5
  have HO5 : Hid (w5.ownsRow w3.heap.size 5 1 (.slice (some ⟨gm, 0, none⟩) (n + 1) cm) (b ++ [165]).length (cellsOf (b ++ [165]))) := by rw [← em]; exact ho5.1
  have HB5 : Hid (Below w3.heap.size w3 w5) := hb5
  have HBM : Hid (BytesAt w5 (some ⟨gm, 0, none⟩) b) := by have h := bytesAt_take n hbm; rw [List.take_left' HN.out.symm] at h; exact h
  subst em
  clear ho5 hb5 hne5 hbm hl5 HAL HO4 HB4 hgm
  have hnc : (n : Int) ≤ (cm : Int) := by omega
  have HDX : Hid (∀ u, Below w3.heap.size w3 u → BytesAt u (some ⟨gm, 0, none⟩) b → Calls Tryd.prog 10 #[.slice (some ⟨gm, 0, none⟩) n cm] u (DecPost b u)) := fun u hu hbu => decode_any _ n cm b u HN.out (by omega) (by omega) hbu HBS.out (HT.out u (below_step HK3.out hu)).1 (HT.out u (below_step HK3.out hu)).2
  go_wp2_with fail
  refine (HDX.out w5 HB5.out HBM.out).mono ?_
  rintro e w6 hpost
  obtain ⟨x, X1, X2, X3, Us, rfl, hx⟩ := dec_fam HBS.out hpost
  rw [HEV.out]
  have HFX : Hid (DecF b w5 w6 x X1 X2 X3 Us) := hx
  have HONE : Hid (X1.oneCell' = true ∧ X2.oneCell' = true ∧ X3.oneCell' = true) := hx.df.ones
  clear hpost hx
  obtain ⟨P6, hP⟩ : ∃ E, w6.heap.size = E := ⟨_, rfl⟩
  obtain ⟨w6', hw5⟩ : ∃ w5, w6.alloc (.cells (dv (fun _ => 0) nilV nilV nilV) 26) = w5 := ⟨_, rfl⟩
  have k5 : Below w6.heap.size w6 w6' := by rw [← hw5]; exact (Below.refl _ _).alloc (Nat.le_refl _) _
  have d5 : DB w6' P6 (fun _ => 0) nilV nilV nilV := by rw [← hw5, ← hP]; exact db_new w6 _ _ _ _
  obtain ⟨w7, hw6⟩ : ∃ w7, w6'.setRow P6 (dv x.cl X1 X2 X3) = w7 := ⟨_, rfl⟩
  have k6 : Below w6.heap.size w6 w7 := by rw [← hw6]; exact below_row k5 (by omega) _
  have HD7 : Hid (DB w7 P6 x.cl X1 X2 X3) := by rw [← hw6]; exact d5.row _ _ _ _
  have HF7 : Hid (Fam w3.heap.size w7 (fd [(X1, Us)] [(X2, x.fo), (X3, x.en)] (Us.zip x.nx) [(5, .slice (some ⟨gm, 0, none⟩) (n + 1) cm, cellsOf (b ++ [165]))])) := by
    have := fd_cat (fam_mine HO5.out) HFX.out.low HFX.out.fam HB5.out.size
    exact this.later k6
  have HB7 : Hid (Below w3.heap.size w3 w7) := below_step (below_step HB5.out HFX.out.low) k6
  have HM7 : Hid (BytesAt w7 (some ⟨gm, 0, none⟩) b) := bytesAt_later k6 (bytesAt_later HFX.out.low HBM.out)
  have HW5 : Hid (w6.alloc (.cells (dv (fun _ => 0) nilV nilV nilV) 26) = w6') := hw5
  have HW6 : Hid (w6'.setRow P6 (dv x.cl X1 X2 X3) = w7) := hw6
  have HEE : Hid (w6.heap.size = P6) := hP
  clear hP hw5 hw6 k5 k6 d5 HO5 HB5 HBM
  go_upto_region 8 with (refine wpList_store_dfa rfl (.tmp 6) (.tmp 48) rfl (db_new w6 (fun _ => 0) nilV nilV nilV) HONE.out rfl rfl ?_; rw [HW5.out, HEE.out, HW6.out])
  clear HW5 HW6 HEE HONE
  go_wp2_with fail
  refine (HDX.out w7 HB7.out HM7.out).mono ?_
  rintro e w8 hpost
  obtain ⟨y, Y1, Y2, Y3, Ws, rfl, hy⟩ := dec_fam HBS.out hpost
  rw [HEV.out]
  have HFY : Hid (DecF b w7 w8 y Y1 Y2 Y3 Ws) := hy
  have HONE : Hid (Y1.oneCell' = true ∧ Y2.oneCell' = true ∧ Y3.oneCell' = true) := hy.df.ones
  clear hpost hy
  obtain ⟨P8, hP⟩ : ∃ E, w8.heap.size = E := ⟨_, rfl⟩
  obtain ⟨w8', hw5⟩ : ∃ w5, w8.alloc (.cells (dv (fun _ => 0) nilV nilV nilV) 26) = w5 := ⟨_, rfl⟩
  have k5 : Below w8.heap.size w8 w8' := by rw [← hw5]; exact (Below.refl _ _).alloc (Nat.le_refl _) _
  have d5 : DB w8' P8 (fun _ => 0) nilV nilV nilV := by rw [← hw5, ← hP]; exact db_new w8 _ _ _ _
  obtain ⟨w9, hw6⟩ : ∃ w9, w8'.setRow P8 (dv y.cl Y1 Y2 Y3) = w9 := ⟨_, rfl⟩
  have k6 : Below w8.heap.size w8 w9 := by rw [← hw6]; exact below_row k5 (by omega) _
  have k79 : Below w7.heap.size w7 w9 := below_step HFY.out.low k6
  have HTP : Hid (Tp w3 w9 P6 P8 x y X1 X2 X3 Y1 Y2 Y3 Us Ws (.slice (some ⟨gm, 0, none⟩) (n + 1) cm) (b ++ [165])) := by
    refine ⟨?_, below_step HB7.out k79, HD7.out.later k79, by rw [← hw6]; exact d5.row _ _ _ _, HFX.out.df.n, HFY.out.df.n⟩
    have := fd_cat HF7.out HFY.out.low HFY.out.fam HB7.out.size
    exact this.later k6
  have HW5 : Hid (w8.alloc (.cells (dv (fun _ => 0) nilV nilV nilV) 26) = w8') := hw5
  have HW6 : Hid (w8'.setRow P8 (dv y.cl Y1 Y2 Y3) = w9) := hw6
  have HEE : Hid (w8.heap.size = P8) := hP
  have HYD : Hid (DfAt w9 y Y1 Y2 Y3 Ws) := HFY.out.df.later k6
  have HM9 : Hid (BytesAt w9 (some ⟨gm, 0, none⟩) b) := bytesAt_later k79 HM7.out
  clear hP hw5 hw6 k5 k6 d5 k79 HF7 HB7 HM7 HD7 HDX
  go_upto_region 9 with (refine wpList_store_dfa rfl (.tmp 8) (.tmp 56) rfl (db_new w8 (fun _ => 0) nilV nilV nilV) HONE.out rfl rfl ?_; rw [HW5.out, HEE.out, HW6.out])
  clear HW5 HW6 HEE HONE hz
  obtain ⟨n1, hn1⟩ : ∃ n1, n + 1 = n1 := ⟨_, rfl⟩
  rw [hn1] at HTP hcm5 ⊢
  have HN1 : Hid (n + 1 = n1) := hn1
  have hnn : (n : Int) < (n1 : Int) := by omega
  have hnb : n1 ≤ 1048577 := by omega
  clear hn1
  have hne : Nonempty (Later w9) := ⟨⟨w9, Below.refl _ _⟩⟩
  have HXF : Hid ((∀ z ∈ x.fo, z < 4294967296) ∧ ∀ z ∈ x.en, z < 4294967296) := ⟨HFX.out.df.bf, HFX.out.df.be⟩
  have HXD : Hid (∀ u, Tp w3 u P6 P8 x y X1 X2 X3 Y1 Y2 Y3 Us Ws (.slice (some ⟨gm, 0, none⟩) n1 cm) (b ++ [165]) → DfAt u x X1 X2 X3 Us) := fun u hu => hu.dfx HXF.out.1 HXF.out.2
  have HSX : Hid (sameT x dw = true) := (sameT_iff _ _).2 (HFX.out.same.trans HSW.out.symm)
  have HSY : Hid (sameT y dw = true) := (sameT_iff _ _).2 (HFY.out.same.trans HSW.out.symm)
  have HSC : Hid (∀ (u : Later w9) (v : Value), (v = .agg (dv x.cl X1 X2 X3) ∨ v = .agg (dv y.cl Y1 Y2 Y3)) → Calls Tryd.prog 19 #[v, .agg (dv dw.cl W1 W2 W3)] u.at_ fun e w' => e = .returned (.bool true) ∧ Below u.at_.heap.size u.at_ w') := fun u v hv => by
    have hwt := HDW.out.later (below_step HTP.out.low u.below)
    rcases hv with rfl | rfl
    · have h := rsame_any x dw _ _ _ _ _ _ Us Xw u.at_ (HXD.out _ (HTP.out.later u.below)) hwt HFX.out.r HRW.out
      rw [HSX.out] at h
      exact h
    · have h := rsame_any y dw _ _ _ _ _ _ Ws Xw u.at_ (HYD.out.later u.below) hwt HFY.out.r HRW.out
      rw [HSY.out] at h
      exact h
  have HU6 : Hid (∀ u : Later w9, DB u.at_ P6 x.cl X1 X2 X3) := fun u => HTP.out.db6.later u.below
  have HU8 : Hid (∀ u : Later w9, DB u.at_ P8 y.cl Y1 Y2 Y3) := fun u => HTP.out.db8.later u.below
  have HU3 : Hid (∀ u : Later w9, DB u.at_ P3 dw.cl W1 W2 W3) := fun u => (HD3.out.later HTP.out.low).later u.below
  obtain ⟨sb, hsb⟩ : ∃ sb, strOfNums b = sb := ⟨_, rfl⟩
  have hv1 : ∀ u : Later w9, (convert 28 9 (.slice (some ⟨gm, 0, none⟩) n cm)).run Tryd.prog u.at_ = .ok (.string sb) u.at_ := fun u => by rw [← hsb]; exact conv_string u.at_ _ n cm b HN.out (bytesAt_later u.below HM9.out)
  have hv2 : ∀ u : Later w9, (convert 28 9 (.slice a n cap)).run Tryd.prog u.at_ = .ok (.string sb) u.at_ := fun u => by rw [← hsb]; exact conv_string u.at_ _ n cap b HN.out (bytesAt_later (below_step HTP.out.low u.below) HB3.out)
  have hr1 : ∀ u : Later w9, u.at_.cell? ⟨gm, n, none⟩ = some (.int .u8 165) := fun u => by
    have ho := (HTP.out.fam.later u.below).own (4 * 0 + 3) 5 (.slice (some ⟨gm, 0, none⟩) n1 cm) (cellsOf (b ++ [165])) (by rw [fd3]; rfl)
    obtain ⟨_, g, eg, _, _, hcl, _⟩ := row_cell ho (k := n) (x := .int .u8 165) (by rw [HN.out]; simp [cellsOf])
    cases eg
    exact hcl
  clear hsb
  refine wp_region_later (by kernel_rfl) (by kernel_rfl) ?_
  repeat (first
    | refine wpQuiet_load_dfa (.tmp 6) rfl rfl HU6.out rfl ?_
    | refine wpQuiet_load_dfa (.tmp 3) rfl rfl HU3.out rfl ?_
    | refine wpQuiet_load_dfa (.tmp 8) rfl rfl HU8.out rfl ?_
    | go_big_quiet_step (((go_at_call 19; exact calls_later (HSC.out _ _ (by first | exact .inl rfl | exact .inr rfl)))))
    | quiet_step (((go_at_call 19; exact calls_later (HSC.out _ _ (by first | exact .inl rfl | exact .inr rfl))))))
  refine wpQuiet_nil ?_
  intro _ hw'
  obtain ⟨u, hw''⟩ := hw'
  subst hw''
  have HTQ : Hid (Tp w3 u.at_ P6 P8 x y X1 X2 X3 Y1 Y2 Y3 Us Ws (.slice (some ⟨gm, 0, none⟩) n1 cm) (b ++ [165])) := HTP.out.later u.below
  obtain ⟨w10, hw10⟩ : ∃ w10, w10 = u.at_ := ⟨_, rfl⟩
  rw [← hw10] at HTQ ⊢
  clear hw10 hne HSC HU6 HU8 HU3 hv1 hv2 hr1 HTP HXD HYD HM9
  go_wp2_with fail
  go_loopw [98] (fun i u => ∃ (k : Nat) (mz : List Int), i = .int .i64 (k : Nat) ∧ k ≤ n1 ∧ Hid (mz.length = n1 ∧ Rec.Bs mz) ∧ Hid (Tp w3 u P6 P8 x y X1 X2 X3 Y1 Y2 Y3 Us Ws (.slice (some ⟨gm, 0, none⟩) n1 cm) mz)) (fun i _ => n1 - (intOf i).toNat)
  case atStart => exact ⟨0, b ++ [165], rfl, by omega, ⟨by rw [List.length_append, ← HN.out]; exact HN1.out, Rec.bs_append HBS.out (Rec.bs_lit (by decide))⟩, HTQ⟩
  case round =>
    obtain ⟨k, mz, rfl, hk, HMZ, HTR⟩ := hrel
    clear HTQ
    by_cases hlt : k < n1
    · have hlt' : (k : Int) < (n1 : Int) := by omega
      have ho := HTR.out.fam.own (4 * 0 + 3) 5 (.slice (some ⟨gm, 0, none⟩) n1 cm) (cellsOf mz) (by rw [fd3]; rfl)
      have hkl : k < mz.length := by rw [HMZ.out.1]; exact hlt
      obtain ⟨_, g, eg, _, _, hcl, hfr⟩ := row_cell ho (k := k) (x := .int .u8 (mz.getD k 0)) (by simp [cellsOf, List.getD_eq_getElem?_getD, List.getElem?_eq_getElem hkl])
      cases eg
      have hbd := Rec.bs_at HMZ.out.2 hkl
      obtain ⟨z, hz⟩ : ∃ z : Nat, mz.getD k 0 = (z : Int) := ⟨(mz.getD k 0).toNat, by omega⟩
      rw [hz] at hcl hbd
      have hxr : bits .xor .u8 (z : Int) 40 = ((z ^^^ 40 : Nat) : Int) := u8_xor_nat z 40 (by omega) (by decide)
      have hxb : z ^^^ 40 < 2 ^ 8 := Nat.xor_lt_two_pow (by omega) (by decide)
      obtain ⟨q, hq⟩ : ∃ q, z ^^^ 40 = q := ⟨_, rfl⟩
      rw [hq] at hxr hxb
      have HQ : Hid (q < 256) := hxb
      clear ho hkl hz hq hxb
      go_wp2
      go_roundw
      case rel => exact ⟨k + 1, mz.set k (q : Int), by go_num, by omega, ⟨by rw [List.length_set]; exact HMZ.out.1, fun y hy => by
        rcases List.mem_or_eq_of_mem_set hy with h | h
        · exact HMZ.out.2 y h
        · have := HQ.out; omega⟩, HTR.out.mput k (q : Int)⟩
      case measure => simp [intOf]; omega
    · have hlt' : ¬ (k : Int) < (n1 : Int) := by omega
      obtain ⟨w11, hw11⟩ : ∃ w11, wr = w11 := ⟨_, rfl⟩
      rw [hw11] at HTR ⊢
      clear hw11
      have HBZ : Hid (BytesAt w11 (some ⟨gm, 0, none⟩) (mz.take n)) := by
        have ho := HTR.out.fam.own (4 * 0 + 3) 5 (.slice (some ⟨gm, 0, none⟩) n1 cm) (cellsOf mz) (by rw [fd3]; rfl)
        rw [cellsOf_length] at ho
        obtain ⟨a', c', e', hby, -⟩ := bytes_of ho
        have e1 := (Value.slice.inj e').1
        rw [← e1] at hby
        exact bytesAt_take n hby
      have HL2 : Hid (n = (mz.take n).length) := by
        have h1 := HN1.out
        have h2 := HMZ.out.1
        show n = _
        rw [List.length_take]
        omega
      have HBS2 : Hid (Rec.Bs (mz.take n)) := Rec.bs_take HMZ.out.2 n
      obtain ⟨b2, hb2⟩ : ∃ b2, mz.take n = b2 := ⟨_, rfl⟩
      rw [hb2] at HBZ HL2 HBS2
      have HDZ : Hid (Calls Tryd.prog 10 #[.slice (some ⟨gm, 0, none⟩) n cm] w11 (DecPost b2 w11)) := decode_any _ n cm b2 w11 HL2.out (by omega) (by omega) HBZ.out HBS2.out (HT.out _ (below_step HK3.out HTR.out.low)).1 (HT.out _ (below_step HK3.out HTR.out.low)).2
      clear hb2 HMZ
      go_wp2_with fail
      refine HDZ.out.mono ?_
      rintro e w12 hpost
      obtain ⟨z, Z1, Z2, Z3, Zs, rfl, hz⟩ := dec_fam HBS2.out hpost
      obtain ⟨ez, hez⟩ : ∃ ez : Int, (if okT b2 = true then (0 : Int) else 120) = ez := ⟨_, rfl⟩
      have HEZ : Hid ((if okT b2 = true then (0 : Int) else 120) = ez) := hez
      rw [hez]
      have HFZ : Hid (DecF b2 w11 w12 z Z1 Z2 Z3 Zs) := hz
      have HONE : Hid (Z1.oneCell' = true ∧ Z2.oneCell' = true ∧ Z3.oneCell' = true) := hz.df.ones
      clear hpost hz hez HDZ
      obtain ⟨P12, hP⟩ : ∃ E, w12.heap.size = E := ⟨_, rfl⟩
      obtain ⟨w12', hw5⟩ : ∃ w5, w12.alloc (.cells (dv (fun _ => 0) nilV nilV nilV) 26) = w5 := ⟨_, rfl⟩
      have k5 : Below w12.heap.size w12 w12' := by rw [← hw5]; exact (Below.refl _ _).alloc (Nat.le_refl _) _
      have d5 : DB w12' P12 (fun _ => 0) nilV nilV nilV := by rw [← hw5, ← hP]; exact db_new w12 _ _ _ _
      obtain ⟨w13, hw6⟩ : ∃ w7, w12'.setRow P12 (dv z.cl Z1 Z2 Z3) = w7 := ⟨_, rfl⟩
      have k6 : Below w12.heap.size w12 w13 := by rw [← hw6]; exact below_row k5 (by omega) _
      have HD13 : Hid (DB w13 P12 z.cl Z1 Z2 Z3) := by rw [← hw6]; exact d5.row _ _ _ _
      have HZ13 : Hid (DfAt w13 z Z1 Z2 Z3 Zs) := HFZ.out.df.later k6
      have k113 : Below w11.heap.size w11 w13 := below_step HFZ.out.low k6
      have HT13 : Hid (Tp w3 w13 P6 P8 x y X1 X2 X3 Y1 Y2 Y3 Us Ws (.slice (some ⟨gm, 0, none⟩) n1 cm) mz) := HTR.out.later k113
      have HB13 : Hid (BytesAt w13 (some ⟨gm, 0, none⟩) b2) := bytesAt_later k113 HBZ.out
      have HW5 : Hid (w12.alloc (.cells (dv (fun _ => 0) nilV nilV nilV) 26) = w12') := hw5
      have HW6 : Hid (w12'.setRow P12 (dv z.cl Z1 Z2 Z3) = w13) := hw6
      have HEE : Hid (w12.heap.size = P12) := hP
      have hzd := zeroDfa
      clear hP hw5 hw6 k5 k6 d5 k113 HTR HBZ
      go_upto_region 17 with (refine wpList_store_dfa rfl (.tmp 11) (.tmp 116) rfl (db_new w12 (fun _ => 0) nilV nilV nilV) HONE.out rfl rfl ?_; rw [HW5.out, HEE.out, HW6.out])
      clear HW5 HW6 HEE HONE
      rename_i K17 hK17
      have HK : Hid (∀ a w, _ → K17 a w) := hK17
      clear hK17
      have HRZ : Hid (Calls Tryd.prog 18 #[.slice (some ⟨gm, 0, none⟩) n cm] w13 (RDecPost b2 w13)) := rdecode_any _ n cm b2 w13 HL2.out (by omega) HB13.out HBS2.out
      go_wp2_with fail
      refine HRZ.out.mono ?_
      rintro e w14 ⟨nw, N1, N2, N3, Xn, rfl, hnw, hrn, hsn, k14⟩
      rw [HEZ.out]
      have HONE : Hid (N1.oneCell' = true ∧ N2.oneCell' = true ∧ N3.oneCell' = true) := hnw.ones
      have HRN : Hid (R64 nw.cl) := hrn
      have HSN : Hid (sameT z nw = true) := (sameT_iff _ _).2 (HFZ.out.same.trans hsn.symm)
      obtain ⟨P14, hP⟩ : ∃ E, w14.heap.size = E := ⟨_, rfl⟩
      obtain ⟨w14', hw5⟩ : ∃ w5, w14.alloc (.cells (dv (fun _ => 0) nilV nilV nilV) 26) = w5 := ⟨_, rfl⟩
      have k5 : Below w14.heap.size w14 w14' := by rw [← hw5]; exact (Below.refl _ _).alloc (Nat.le_refl _) _
      have d5 : DB w14' P14 (fun _ => 0) nilV nilV nilV := by rw [← hw5, ← hP]; exact db_new w14 _ _ _ _
      obtain ⟨w15, hw6⟩ : ∃ w7, w14'.setRow P14 (dv nw.cl N1 N2 N3) = w7 := ⟨_, rfl⟩
      have k6 : Below w14.heap.size w14 w15 := by rw [← hw6]; exact below_row k5 (by omega) _
      have k135 : Below w13.heap.size w13 w15 := below_step k14 k6
      have HDN : Hid (DB w15 P14 nw.cl N1 N2 N3) := by rw [← hw6]; exact d5.row _ _ _ _
      have HDZ : Hid (DB w15 P12 z.cl Z1 Z2 Z3) := HD13.out.later k135
      have HT15 : Hid (Tp w3 w15 P6 P8 x y X1 X2 X3 Y1 Y2 Y3 Us Ws (.slice (some ⟨gm, 0, none⟩) n1 cm) mz) := HT13.out.later k135
      have HS1 : Hid (Calls Tryd.prog 19 #[.agg (dv z.cl Z1 Z2 Z3), .agg (dv nw.cl N1 N2 N3)] w15 fun e w' => e = .returned (.bool true) ∧ Below w15.heap.size w15 w') := by
        have h := rsame_any z nw _ _ _ _ _ _ Zs Xn w15 (HZ13.out.later k135) (hnw.later k6) HFZ.out.r HRN.out
        rw [HSN.out] at h
        exact h
      have HW5 : Hid (w14.alloc (.cells (dv (fun _ => 0) nilV nilV nilV) 26) = w14') := hw5
      have HW6 : Hid (w14'.setRow P14 (dv nw.cl N1 N2 N3) = w15) := hw6
      have HEE : Hid (w14.heap.size = P14) := hP
      clear hP hw5 hw6 k5 k6 d5 k135 k14 hnw hrn hsn HT13 HB13 HD13 HZ13 HRZ HSN HRN
      go_wp2_with (refine wpList_store_dfa rfl (.tmp 13) (.tmp 124) rfl (db_new w14 (fun _ => 0) nilV nilV nilV) HONE.out rfl rfl ?_; rw [HW5.out, HEE.out, HW6.out])
      refine HK.out _ _ ?_
      exact head_all HT15.out HFX.out HFY.out HD3.out HDW.out HRW.out HSX.out HDZ.out HDN.out HS1.out HK3.out _ _ _ _ _ _ _ _ _ _ _ _ _ _ _ _ _ _ _ _ _ _ _ _ _ _ _ _ _ _ _ _ _ _ _ _ _ _ _ _ _ _ _ _ _ _ _ _ _ _ _ _ _ _ _ _ _ _ _ _ _ _ _ _ _ _ _ _ _ _ _ _ _ _ _ _ _ _ _ _ _ _ _ _ _ _ _ _ _ _ _ _ _ _ _ _ _ _ _ _ _ _ _ _ _ _ _ _ _ _ _ _ _ _ _ _ _ _ _ _ _ _ _ _ _ _ _ _ _ _ _ _ _ _ _ _ _ _ _ _ _ _ _ _ _ _ _ _ _ _ _ _ _ _ _ _ _ _ _ _ _ _ _ _ _ _ _ _ _ _ _ _ _ _ _ _ _ _ _ _ _ _ _ _ _ _ _ _ _ _ _ _ _ _ _ _ _ _ _ _ _ _ _ _ _ _ _ _ _ _ _ _ _ _ _ _ _ _ _ _ _ _ _ _ _ _ _ _ _ _ _ _ _ _ _ _ _ _ _ _ _ _ _ _ _ _ _ _ _ _ _ _ _ _ _ _ _ _ _ _ _ _ _ _ _ _ _ _ _ _ _ _ _ _ _ _ _ _ _ _ _ _ _ _ _ _ _ _ _ _ _ _ _ _ _ _ _ _ _ _ _ _ _ _ _ _ _ _ _ _ _ _ _ _ _ _ _ _ _ _ _ _ _ _ 
end Go.Proofs.YtdngileimmgdnaaDoor
