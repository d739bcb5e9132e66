/- The walk of heronlaw12.TableBack. -/
import Derived.Test.YtdngileimmgdnaaDoorG20
import Derived.Test.YtdngileimmgdnaaDoorG22
import Derived.Test.YtdngileimmgdnaaDoorG10
namespace Go.Proofs.YtdngileimmgdnaaDoor
open Go Go.RowKit
attribute [local go_sem ↓] Go.wp_at_zero Go.wp_at_succ

theorem goT_same {a b : Dt} (h : sameD a b) (l : List UInt8) : goT a l = goT b l := by
  obtain ⟨_, _, p3, _, _⟩ := h.parts
  unfold goT
  have key : ∀ (l : List UInt8) (s : Nat), l.foldl (fun s c => ((a.row s).getD (a.cl c.toNat).toNat 0).toNat) s = l.foldl (fun s c => ((b.row s).getD (b.cl c.toNat).toNat 0).toNat) s := by
    intro l
    induction l with
    | nil => intro s; rfl
    | cons c l ih =>
      intro s
      rw [List.foldl_cons, List.foldl_cons, p3, h.1 c.toNat (by have := c.toNat_lt; omega)]
      exact ih _
  exact key l 0
theorem runT_same {a b : Dt} (h : sameD a b) (t : ByteArray) : runT a t = runT b t := by
  obtain ⟨_, _, _, _, p5⟩ := h.parts
  unfold runT
  rw [goT_same h, p5]
theorem runT_lt {d : Dt} (h : ∀ x ∈ d.en, x < 4294967296) (t : ByteArray) : runT d t < 4294967296 := by
  unfold runT Dt.e
  rw [List.getD_eq_getElem?_getD]
  cases e : d.en[goT d t.data.toList]? with
  | none => simp
  | some x => exact h x (List.mem_of_getElem? e)
theorem DB.load {w : World} {D : Nat} {f : Nat → Int} {V1 V2 V3 : Value} (h : DB w D f V1 V2 V3) : (Instr.loadAt 26 (.pointer (some ⟨D, 0, none⟩))).run Tryd.prog w = .ok (.agg (dv f V1 V2 V3)) w := by
  obtain ⟨fs, hu⟩ := underD
  simp only [Instr.loadAt, Instr.sureAddr, Sem.run_bind, Sem.run_pure, Result.andThen]
  exact run_loadVar_row w D _ _ _ (0, 0) _ h hu rfl (by rw [dv_size]; exact sizeD)
theorem wpQuiet_load_dfa {ops : Array Oper} {rest : List Oper} {o : Oper} {a : Act} {w : World} {Q : Act → Prop} (x : Operand) (ho : o.op = .load 26 x) (hgd : Region.wanted o (yielded ops a.tmps) = true) {D : Nat} {f : Nat → Int} {V1 V2 V3 : Value} (h : ∀ u : Later w, DB u.at_ D f V1 V2 V3) (hx : a.eval x = .pointer (some ⟨D, 0, none⟩))
    (hk : wpQuiet Tryd.prog ops (fun w' => ∃ u : Later w, w' = u.at_) Q rest (a.put o.dst (.agg (dv f V1 V2 V3)))) : wpQuiet Tryd.prog ops (fun w' => ∃ u : Later w, w' = u.at_) Q (o :: rest) a := by
  show (if Region.wanted o (yielded ops a.tmps) then _ else _)
  rw [if_pos hgd]
  refine ⟨.agg (dv f V1 V2 V3), ?_, hk⟩
  rintro _ ⟨u, rfl⟩
  unfold Oper.quietAt
  simp only [execOp, ho, hx, Sem.run_bind, (h u).load]
  exact ⟨rfl, rfl⟩
set_option maxRecDepth 20000 in
set_option maxHeartbeats 8000000 in
theorem back_any (a b : Dt) (A1 A2 A3 B1 B2 B3 : Value) (As Bs : List Value) (t : ByteArray) (w : World) (ha : DfAt w a A1 A2 A3 As) (hb : DfAt w b B1 B2 B3 Bs) (ra : R64 a.cl) (rb : R64 b.cl) (ht : t.size ≤ maxLen) (hT : Tab w) (h0 : 0 < w.heap.size) :
    Calls Tryd.prog 4 #[.agg (dv a.cl A1 A2 A3), .agg (dv b.cl B1 B2 B3), .string t] w fun e w' => e = .returned (.bool true) ∧ Below w.heap.size w w' := by
  obtain ⟨w1, hw1⟩ : ∃ w1, w.alloc (.cells (dv a.cl A1 A2 A3) 26) = w1 := ⟨_, rfl⟩
  obtain ⟨w2, hw2⟩ : ∃ w2, w1.alloc (.cells (dv b.cl B1 B2 B3) 26) = w2 := ⟨_, rfl⟩
  obtain ⟨D, hD⟩ : ∃ D, w.heap.size = D := ⟨_, rfl⟩
  have z1 : w1.heap.size = D + 1 := by rw [← hw1, ← hD]; simp
  have kk1 : Below w.heap.size w w1 := by rw [← hw1]; exact (Below.refl _ _).alloc (Nat.le_refl _) _
  have kk2 : Below w1.heap.size w1 w2 := by rw [← hw2]; exact (Below.refl _ _).alloc (Nat.le_refl _) _
  have dd1 : DB w1 D a.cl A1 A2 A3 := by rw [← hw1, ← hD]; exact db_new w _ _ _ _
  have dd2 : DB w2 (D + 1) b.cl B1 B2 B3 := by rw [← hw2, ← z1]; exact db_new w1 _ _ _ _
  have HS : Hid (Sx w w2 D a b A1 A2 A3 B1 B2 B3 As Bs) := ⟨dd1.later kk2, dd2, (ha.later kk1).later kk2, (hb.later kk1).later kk2, below_step kk1 kk2⟩
  have HW : Hid ((w.alloc (.cells (dv a.cl A1 A2 A3) 26)).alloc (.cells (dv b.cl B1 B2 B3) 26) = w2) := by rw [hw1]; exact hw2
  have HDD : Hid (w.heap.size = D) := hD
  have HT : Hid (∀ u, Below w.heap.size w u → Tab u ∧ 0 < u.heap.size) := fun u hu => ⟨tab_below hu h0 hT, by have := hu.size; omega⟩
  have HRA : Hid (R64 a.cl) := ra
  have HRB : Hid (R64 b.cl) := rb
  clear hw1 hw2 hD z1 kk1 kk2 dd1 dd2 ha hb ra rb hT
  go_enter Tryd.func4, Tryd.ntmps4
  go_upto_region 1 with fail
  rw [HW.out, HDD.out]
  clear HW
  go_wp2_with fail
  refine (known_any w2 (HT.out w2 HS.out.low).1 (HT.out w2 HS.out.low).2).mono ?_
  rintro e w3 ⟨rfl, k3⟩
  have HS3 : Hid (Sx w w3 D a b A1 A2 A3 B1 B2 B3 As Bs) := HS.out.later k3
  clear HS k3
  unfold maxLen at ht
  obtain ⟨t3, ht3⟩ : ∃ tb : Bool, tb = decide (300 < t.size) := ⟨_, rfl⟩
  have HT3 : Hid (t3 = decide (300 < t.size)) := ht3
  clear ht3
  go_upto_region 3 with fail
  go_cut [21] (fun v wx => v = .bool t3 ∧ wx = w3)
  case first =>
    by_cases h60 : 300 < t.size
    · have h60' : (300 : Int) < (t.size : Int) := by omega
      have hd : decide (300 < t.size) = true := decide_eq_true h60
      have hv : t3 = true := HT3.out.trans hd
      clear h60
      go_wp2_with fail
      go_meet
      case rel => exact ⟨by rw [hv], rfl⟩
    · have h60' : ¬ (300 : Int) < (t.size : Int) := by omega
      have hd : decide (300 < t.size) = false := decide_eq_false h60
      have hv : t3 = false := HT3.out.trans hd
      clear h60
      go_wp2_with fail
      go_meet
      case rel => exact ⟨by rw [hv], rfl⟩
  case rest =>
  obtain ⟨rfl, rfl⟩ := hcut
  go_upto_if 21 with fail
  go_cut [2] (fun v wx => ∃ s2 : ByteArray, v = .string s2 ∧ s2.size ≤ 300 ∧ wx = wc)
  case first =>
    cases t3 with
    | true =>
      have h60 : 300 < t.size := of_decide_eq_true HT3.out.symm
      have h60' : (300 : Int) < (t.size : Int) := by omega
      have h60e : (300 : Int) ≤ (t.size : Int) := by omega
      go_wp2_with fail
      go_meet
      case rel => exact ⟨_, rfl, by simp; omega, rfl⟩
    | false =>
      have h60 : ¬ 300 < t.size := of_decide_eq_false HT3.out.symm
      go_wp2_with fail
      go_meet
      case rel => exact ⟨t, rfl, by omega, rfl⟩
  case rest =>
  obtain ⟨s, rfl, hs, rfl⟩ := hcut
  clear ht HT3 t t3
  have HSS : Hid (s.size ≤ 300) := hs
  clear hs
  have HE : Hid (Calls Tryd.prog 8 #[.agg (dv a.cl A1 A2 A3)] wc (EncPost a wc)) := encode_any a A1 A2 A3 As wc HS3.out.ta (HT.out wc HS3.out.low).1 (HT.out wc HS3.out.low).2
  go_wp2_with (refine wpList_load_dfa rfl (.tmp 3) rfl HS3.out.da rfl ?_)
  refine HE.out.mono ?_
  rintro e w4 ⟨⟨v, rfl, hO⟩, k4⟩
  have HS4 : Hid (Sx w w4 D a b A1 A2 A3 B1 B2 B3 As Bs) := HS3.out.later k4
  have HRI : Hid (Calls Tryd.prog 11 #[.agg (dv a.cl A1 A2 A3)] w4 fun e w' => e = .returned (.bool (rightT a)) ∧ Below w4.heap.size w4 w') := right_any a A1 A2 A3 As w4 HS4.out.ta
  clear HE k4 HS3
  cases hr : rightT a with
  | false =>
    rw [hr] at HRI
    rw [hr, if_neg (by decide)] at hO
    obtain rfl : v = .slice none 0 0 := hO.2.1 rfl
    clear hO
    go_wp2_with (refine wpList_load_dfa rfl (.tmp 3) rfl HS4.out.da rfl ?_)
    refine HRI.out.mono ?_
    rintro e w5 ⟨rfl, k5⟩
    have HB : Hid (Below w.heap.size w w5) := below_step HS4.out.low k5
    clear HRI k5 HS4
    go_wp2
    go_ret
    exact ⟨rfl, HB.out⟩
  | true =>
  rw [hr] at HRI
  rw [hr, if_pos rfl] at hO
  have hF := (fits_iff a).1 hr
  obtain ⟨q, cap, rfl, hbt, hc, hm, hg, -⟩ := hO.form
  obtain ⟨n, hn⟩ : ∃ n, (imgT a).length = n := ⟨_, rfl⟩
  have hn2 := hF.imgT_len
  have hs1 := hF.s1
  have hs2 := hF.s2
  have hc1 := hF.c1
  have hc2 := hF.c2
  obtain ⟨g, rfl⟩ := hg (fun e => by rw [e] at hn2; simp at hn2; omega)
  obtain ⟨S, hS⟩ : ∃ S, a.S = S := ⟨_, rfl⟩
  obtain ⟨C, hC⟩ : ∃ C, a.C = C := ⟨_, rfl⟩
  obtain ⟨M, hM⟩ : ∃ M, S * (8 + 2 * C) = M := ⟨_, rfl⟩
  have hM2 : M ≤ 4096 * 520 := by rw [← hM]; exact Nat.mul_le_mul (by omega) (by omega)
  rw [hn, hS, hC, hM] at hn2
  rw [hn] at hc ⊢
  rw [hS] at hs1 hs2
  rw [hC] at hc1 hc2
  have HNN : Hid ((imgT a).length = n ∧ a.S = S ∧ a.C = C) := ⟨hn, hS, hC⟩
  have HM : Hid (S * (8 + 2 * C) = M) := hM
  have HN : Hid (n = 274 + M) := hn2
  have HM2 : Hid (M ≤ 4096 * 520) := hM2
  have HFI : Hid (Fits a) := hF
  have HBA : Hid (BytesAt w4 (some ⟨g, 0, none⟩) (imgT a)) := hbt
  have HCA : Hid (n ≤ cap) := hc
  have HRA2 : Hid (rightT a = true) := hr
  have hn0 : 0 < n := by omega
  clear hO hr hF hbt hc hm hg hn hn2 hS hC hM hM2
  go_wp2_with (refine wpList_load_dfa rfl (.tmp 3) rfl HS4.out.da rfl ?_)
  refine HRI.out.mono ?_
  rintro e w5 ⟨rfl, k5⟩
  have HS5 : Hid (Sx w w5 D a b A1 A2 A3 B1 B2 B3 As Bs) := HS4.out.later k5
  have HB5 : Hid (BytesAt w5 (some ⟨g, 0, none⟩) (imgT a)) := bytesAt_later k5 HBA.out
  have HDC : Hid (Calls Tryd.prog 10 #[.slice (some ⟨g, 0, none⟩) n cap] w5 (DecPost (imgT a) w5)) := decode_any _ n cap (imgT a) w5 HNN.out.1.symm HCA.out (by have := HN.out; have := HM2.out; omega) HB5.out (bs_imgT a) (HT.out w5 HS5.out.low).1 (HT.out w5 HS5.out.low).2
  clear HRI k5 HS4 HBA
  go_wp2_with fail
  refine HDC.out.mono ?_
  rintro e w6 ⟨hdec, k6⟩
  obtain ⟨hok, hsm⟩ := HFI.out.decode HS5.out.ta.bf HS5.out.ta.be
  have hdec' := hdec.resolve_right (fun h => by have := h.1; rw [hok] at this; cases this)
  obtain ⟨-, V1, V2, V3, Ws, Hb, Tt, rfl, htm⟩ := hdec'
  have hbf := Rec.bs_take (bs_imgT a) ((imgT a).length - 4)
  obtain ⟨bf, be⟩ := rdT_words hbf
  obtain ⟨zs, hzs⟩ : ∃ zs, frontB (imgT a) = zs := ⟨_, rfl⟩
  have hzs' : (imgT a).take ((imgT a).length - 4) = zs := hzs
  rw [hzs'] at hsm bf be hbf
  rw [hzs] at htm ⊢
  obtain ⟨x, hx⟩ : ∃ x : Dt, x = rdT zs := ⟨_, rfl⟩
  have hxc : rdCl zs = x.cl := by rw [hx]; rfl
  have HDF : Hid (DfAt w6 x V1 V2 V3 Ws) := by rw [hx]; exact htm.read bf be
  have HSM : Hid (sameD x a) := by rw [hx]; exact hsm
  have HRX : Hid (R64 x.cl) := by rw [← hxc]; exact r64_rd hbf
  rw [hxc]
  have HS6 : Hid (Sx w w6 D a b A1 A2 A3 B1 B2 B3 As Bs) := HS5.out.later k6
  have HB6 : Hid (BytesAt w6 (some ⟨g, 0, none⟩) (imgT a)) := bytesAt_later k6 HB5.out
  have HONE : Hid (V1.oneCell' = true ∧ V2.oneCell' = true ∧ V3.oneCell' = true) := HDF.out.ones
  clear hdec hok hsm htm hbf bf be hzs hzs' hxc hx k6 HS5 HB5 HDC
  obtain ⟨E, hE⟩ : ∃ E, w6.heap.size = E := ⟨_, rfl⟩
  obtain ⟨w7, hw7⟩ : ∃ w7, w6.alloc (.cells (dv (fun _ => 0) nilV nilV nilV) 26) = w7 := ⟨_, rfl⟩
  have k7 : Below w6.heap.size w6 w7 := by rw [← hw7]; exact (Below.refl _ _).alloc (Nat.le_refl _) _
  have d7 : DB w7 E (fun _ => 0) nilV nilV nilV := by rw [← hw7, ← hE]; exact db_new w6 _ _ _ _
  obtain ⟨w8, hw8⟩ : ∃ w8, w7.setRow E (dv x.cl V1 V2 V3) = w8 := ⟨_, rfl⟩
  have HD8 : Hid (DB w8 E x.cl V1 V2 V3) := by rw [← hw8]; exact d7.row _ _ _ _
  have k8 : Below w6.heap.size w6 w8 := by rw [← hw8]; exact below_row k7 (by omega) _
  have HS8 : Hid (Sx w w8 D a b A1 A2 A3 B1 B2 B3 As Bs) := HS6.out.later k8
  have HDF8 : Hid (DfAt w8 x V1 V2 V3 Ws) := HDF.out.later k8
  have HB8 : Hid (BytesAt w8 (some ⟨g, 0, none⟩) (imgT a)) := bytesAt_later k8 HB6.out
  have HW7 : Hid (w6.alloc (.cells (dv (fun _ => 0) nilV nilV nilV) 26) = w7) := hw7
  have HW8 : Hid (w7.setRow E (dv x.cl V1 V2 V3) = w8) := hw8
  have HEE : Hid (w6.heap.size = E) := hE
  have hz := zeroDfa
  clear hw7 hw8 hE k7 k8 d7 HB6 HDF HS6
  go_upto_region 11 with (refine wpList_store_dfa rfl (.tmp 9) (.tmp 52) rfl (db_new w6 (fun _ => 0) nilV nilV nilV) HONE.out rfl rfl ?_; rw [HW7.out, HEE.out, HW8.out])
  clear hz HW7 HEE HW8
  obtain ⟨r, hr⟩ : ∃ r, runT a s = r := ⟨_, rfl⟩
  have hr32 : r < 4294967296 := by rw [← hr]; exact runT_lt HS8.out.ta.be s
  have HR1 : Hid (Calls Tryd.prog 12 #[.agg (dv a.cl A1 A2 A3), .string s] w8 fun e w' => e = .returned (.tuple #[.int .u32 (r : Nat), .int .i64 0]) ∧ Below w8.heap.size w8 w') := by
    rw [← hr]
    exact run_yes a A1 A2 A3 As s w8 HS8.out.ta HRA2.out (by have := HSS.out; unfold maxLen; omega)
  have HR2 : Hid (∀ u, Below w8.heap.size w8 u → Calls Tryd.prog 12 #[.agg (dv x.cl V1 V2 V3), .string s] u fun e w' => e = .returned (.tuple #[.int .u32 (r : Nat), .int .i64 0]) ∧ Below u.heap.size u w') := fun u hu => by
    rw [← hr, ← runT_same HSM.out s]
    exact run_yes x V1 V2 V3 Ws s u (HDF8.out.later hu) (by rw [HSM.out.right]; exact HRA2.out) (by have := HSS.out; unfold maxLen; omega)
  clear hr
  go_wp2_with (refine wpList_load_dfa rfl (.tmp 3) rfl HS8.out.da rfl ?_)
  refine HR1.out.mono ?_
  rintro e w9 ⟨rfl, k9⟩
  have HS9 : Hid (Sx w w9 D a b A1 A2 A3 B1 B2 B3 As Bs) := HS8.out.later k9
  have HD9 : Hid (DB w9 E x.cl V1 V2 V3) := HD8.out.later k9
  have HDF9 : Hid (DfAt w9 x V1 V2 V3 Ws) := HDF8.out.later k9
  have HB9 : Hid (BytesAt w9 (some ⟨g, 0, none⟩) (imgT a)) := bytesAt_later k9 HB8.out
  have HR3 : Hid (Calls Tryd.prog 12 #[.agg (dv x.cl V1 V2 V3), .string s] w9 fun e w' => e = .returned (.tuple #[.int .u32 (r : Nat), .int .i64 0]) ∧ Below w9.heap.size w9 w') := HR2.out w9 k9
  clear HR1 HR2 k9 HS8 HD8 HDF8 HB8
  go_wp2_with (refine wpList_load_dfa rfl (.tmp 9) rfl HD9.out rfl ?_)
  refine HR3.out.mono ?_
  rintro e w10 ⟨rfl, k10⟩
  have HSX : Hid (Sx w w10 D a b A1 A2 A3 B1 B2 B3 As Bs) := HS9.out.later k10
  have HDX : Hid (DB w10 E x.cl V1 V2 V3) := HD9.out.later k10
  have HDFX : Hid (DfAt w10 x V1 V2 V3 Ws) := HDF9.out.later k10
  have HBX : Hid (BytesAt w10 (some ⟨g, 0, none⟩) (imgT a)) := bytesAt_later k10 HB9.out
  clear HR3 k10 HS9 HD9 HDF9 HB9
  go_upto_region 13 with fail
  have hne : Nonempty (Later w10) := ⟨⟨w10, Below.refl _ _⟩⟩
  obtain ⟨a1, c1, a2, c2, a3, c3, e1, -, -, l1, m1, -⟩ := HSX.out.ta.forms
  have HE1 : Hid (A1 = .slice a1 a.S c1) := e1
  obtain ⟨b1, o1, U, ea1, hcU, hLU⟩ := HSX.out.ta.rowAt (s := 0) (by rw [HNN.out.2.1]; omega) e1
  obtain ⟨ua, uc, eU, lu, mu, -⟩ := hLU.intAt
  have hrow : (a.row 0).length = C := by rw [HFI.out.rl 0 (by rw [HNN.out.2.1]; omega)]; exact HNN.out.2.2
  rw [hrow] at eU lu
  subst eU
  subst ea1
  rw [e1, HNN.out.2.1] at HSX
  rw [HNN.out.2.1] at l1
  clear hLU hrow e1
  have q1 : ∀ u : Later w10, u.at_.cell? ⟨D, 256, none⟩ = some (.slice (some ⟨b1, o1, none⟩) S c1) := fun u => (HSX.out.da.later u.below).hi.1
  have q2 : ∀ u : Later w10, u.at_.cell? ⟨b1, o1, none⟩ = some (.slice ua C uc) := fun u => cell_later u.below _ _ _ hcU
  have HDA : Hid (∀ u : Later w10, DB u.at_ D a.cl (.slice (some ⟨b1, o1, none⟩) S c1) A2 A3) := fun u => HSX.out.da.later u.below
  have HDE : Hid (∀ u : Later w10, DB u.at_ E x.cl V1 V2 V3) := fun u => HDX.out.later u.below
  have HSC : Hid (∀ u : Later w10, Calls Tryd.prog 13 #[.agg (dv x.cl V1 V2 V3), .agg (dv a.cl (.slice (some ⟨b1, o1, none⟩) S c1) A2 A3)] u.at_ fun e w' => e = .returned (.bool true) ∧ Below u.at_.heap.size u.at_ w') := fun u => by
    have h := lsame_any x a V1 V2 V3 _ A2 A3 Ws As u.at_ (HDFX.out.later u.below) (HSX.out.ta.later u.below) HRX.out HRA.out
    rw [(sameT_iff x a).2 HSM.out] at h
    exact h
  have hS0 : (0 : Int) < (S : Int) := by omega
  have hwr1 : IntKind.i64.wrap ((S : Int) * (8 + 2 * (C : Int))) = (M : Int) := by
    have h1 : (S : Int) * (8 + 2 * (C : Int)) = ((S * (8 + 2 * C) : Nat) : Int) := by simp
    rw [h1, HM.out]
    have := HM2.out
    simp [IntKind.wrap, IntKind.signed, IntKind.bits]
    omega
  have hw64 : wrap64 (274 + (M : Int)) = (n : Int) := by have := HN.out; have := HM2.out; unfold wrap64; omega
  clear hcU
  refine wp_region_later (by kernel_rfl) (by kernel_rfl) ?_
  repeat (first
    | refine wpQuiet_load_dfa (.tmp 9) rfl rfl HDE.out rfl ?_
    | refine wpQuiet_load_dfa (.tmp 3) rfl rfl HDA.out rfl ?_
    | go_big_quiet_step (((go_at_call 13; exact calls_later (HSC.out _))))
    | quiet_step (((go_at_call 13; exact calls_later (HSC.out _)))))
  refine wpQuiet_nil ?_
  intro _ hw'
  obtain ⟨u, hw''⟩ := hw'
  subst hw''
  have HSY : Hid (Sx w u.at_ D a b (.slice (some ⟨b1, o1, none⟩) S c1) A2 A3 B1 B2 B3 As Bs) := HSX.out.later u.below
  have HBY : Hid (BytesAt u.at_ (some ⟨g, 0, none⟩) (imgT a)) := bytesAt_later u.below HBX.out
  obtain ⟨w11, hw11⟩ : ∃ w11, w11 = u.at_ := ⟨_, rfl⟩
  rw [← hw11] at HSY HBY ⊢
  clear hne q1 q2 HDA HDE HSC hw11 HSX HBX HDX HDFX
  have HE2 : Hid (Calls Tryd.prog 8 #[.agg (dv b.cl B1 B2 B3)] w11 (EncPost b w11)) := encode_any b B1 B2 B3 Bs w11 HSY.out.tb (HT.out w11 HSY.out.low).1 (HT.out w11 HSY.out.low).2
  go_wp2_with (refine wpList_load_dfa rfl (.tmp 4) rfl HSY.out.db rfl ?_)
  refine HE2.out.mono ?_
  rintro e w12 ⟨⟨v, rfl, hO⟩, k12⟩
  have HSZ : Hid (Sx w w12 D a b (.slice (some ⟨b1, o1, none⟩) S c1) A2 A3 B1 B2 B3 As Bs) := HSY.out.later k12
  have HBZ : Hid (BytesAt w12 (some ⟨g, 0, none⟩) (imgT a)) := bytesAt_later k12 HBY.out
  clear HE2 HSY HBY k12
  cases hr2 : rightT b with
  | false =>
    rw [hr2, if_neg (by decide)] at hO
    obtain rfl : v = .slice none 0 0 := hO.2.1 rfl
    clear hO
    go_upto_region 16 with fail
    go_quiet (fail)
    have HB : Hid (Below w.heap.size w (w12.drewN nq)) := below_drewN HSZ.out.low _
    go_wp2
    go_ret
    exact ⟨rfl, HB.out⟩
  | true =>
  rw [hr2, if_pos rfl] at hO
  obtain ⟨q, cap2, rfl, hbt, hc, hm, hg, -⟩ := hO.form
  obtain ⟨n2, hn2⟩ : ∃ n2, (imgT b).length = n2 := ⟨_, rfl⟩
  have HCV1 : ∀ u : Later w12, (convert 28 9 (.slice (some ⟨g, 0, none⟩) n cap)).run Tryd.prog u.at_ = .ok (.string (strOfNums (imgT a))) u.at_ := fun u => conv_string u.at_ _ n cap (imgT a) HNN.out.1.symm (bytesAt_later u.below HBZ.out)
  have HCV2 : ∀ u : Later w12, (convert 28 9 (.slice q n2 cap2)).run Tryd.prog u.at_ = .ok (.string (strOfNums (imgT b))) u.at_ := fun u => conv_string u.at_ _ n2 cap2 (imgT b) hn2.symm (bytesAt_later u.below hbt)
  have HSS2 : Hid (sameT a b = decide (strOfNums (imgT a) = strOfNums (imgT b))) := by
    show _ = _
    rw [Bool.eq_iff_iff, decide_eq_true_eq, sameT_iff]
    constructor
    · intro h; rw [h.img]
    · intro h
      exact img_inj HFI.out ((fits_iff b).1 hr2) HSZ.out.ta.bf HSZ.out.ta.be HSZ.out.tb.bf HSZ.out.tb.be (strOf_inj (bs_imgT a) (bs_imgT b) h)
  rw [hn2]
  obtain ⟨s1, hs1'⟩ : ∃ s1, strOfNums (imgT a) = s1 := ⟨_, rfl⟩
  obtain ⟨s2, hs2'⟩ : ∃ s2, strOfNums (imgT b) = s2 := ⟨_, rfl⟩
  rw [hs1'] at HCV1 HSS2
  rw [hs2'] at HCV2 HSS2
  have HDA : Hid (∀ u : Later w12, DB u.at_ D a.cl (.slice (some ⟨b1, o1, none⟩) S c1) A2 A3) := fun u => HSZ.out.da.later u.below
  have HDE : Hid (∀ u : Later w12, DB u.at_ (D + 1) b.cl B1 B2 B3) := fun u => HSZ.out.db.later u.below
  have HSC : Hid (∀ u : Later w12, Calls Tryd.prog 13 #[.agg (dv a.cl (.slice (some ⟨b1, o1, none⟩) S c1) A2 A3), .agg (dv b.cl B1 B2 B3)] u.at_ fun e w' => e = .returned (.bool (sameT a b)) ∧ Below u.at_.heap.size u.at_ w') := fun u => lsame_any a b _ A2 A3 B1 B2 B3 As Bs u.at_ (HSZ.out.ta.later u.below) (HSZ.out.tb.later u.below) HRA.out HRB.out
  obtain ⟨sm, hsm⟩ : ∃ sm, sameT a b = sm := ⟨_, rfl⟩
  rw [hsm] at HSC HSS2
  have hne : Nonempty (Later w12) := ⟨⟨w12, Below.refl _ _⟩⟩
  clear hO hbt hc hm hg hn2 hs1' hs2' hsm hr2
  go_upto_region 16 with fail
  cases sm with
  | true =>
    have hss : s1 = s2 := of_decide_eq_true HSS2.out.symm
    subst hss
    refine wp_region_later (by kernel_rfl) (by kernel_rfl) ?_
    repeat (first
      | refine wpQuiet_load_dfa (.tmp 3) rfl rfl HDA.out rfl ?_
      | refine wpQuiet_load_dfa (.tmp 4) rfl rfl HDE.out rfl ?_
      | go_big_quiet_step (((go_at_call 13; exact calls_later (HSC.out _))))
      | quiet_step (((go_at_call 13; exact calls_later (HSC.out _)))))
    refine wpQuiet_nil ?_
    intro _ hw'
    obtain ⟨u, hw''⟩ := hw'
    subst hw''
    have HB : Hid (Below w.heap.size w u.at_) := below_step HSZ.out.low u.below
    go_wp2
    go_ret
    exact ⟨rfl, HB.out⟩
  | false =>
    have hss : ¬ s1 = s2 := of_decide_eq_false HSS2.out.symm
    have hss2 : (s1.toList == s2.toList) = false := by rw [beq_bytes, decide_eq_false hss]
    refine wp_region_later (by kernel_rfl) (by kernel_rfl) ?_
    repeat (first
      | refine wpQuiet_load_dfa (.tmp 3) rfl rfl HDA.out rfl ?_
      | refine wpQuiet_load_dfa (.tmp 4) rfl rfl HDE.out rfl ?_
      | go_big_quiet_step (((go_at_call 13; exact calls_later (HSC.out _))))
      | quiet_step (((go_at_call 13; exact calls_later (HSC.out _)))))
    refine wpQuiet_nil ?_
    intro _ hw'
    obtain ⟨u, hw''⟩ := hw'
    subst hw''
    have HB : Hid (Below w.heap.size w u.at_) := below_step HSZ.out.low u.below
    go_wp2
    go_ret
    exact ⟨rfl, HB.out⟩
end Go.Proofs.YtdngileimmgdnaaDoor
