/- table.Decode. -/
import Derived.Test.YtdngileimmgdnaaDoorG17
import Derived.DeepKeys
namespace Go.Proofs.YtdngileimmgdnaaDoor
open Go.RowKit
attribute [local go_sem ↓] Go.wp_at_zero Go.wp_at_succ

/-- the bytes ahead of the sum -/
def frontB (b : List Int) : List Int := b.take (b.length - 4)
def DecPost (b : List Int) (w : World) (e : Ending) (w' : World) : Prop :=
  ((okT b = true ∧ ∃ V1 V2 V3 Us Hb T, e = .returned (.tuple #[.agg (dv (rdCl (frontB b)) V1 V2 V3), .int .i64 0]) ∧ Tm w.heap.size Hb T (rdCl (frontB b)) (rdT (frontB b)).nx (rdT (frontB b)).fo (rdT (frontB b)).en V1 V2 V3 Us w') ∨
    (okT b = false ∧ e = .returned (.tuple #[.agg (dv (fun _ => 0) nilV nilV nilV), .int .i64 120]))) ∧ Below w.heap.size w w'
theorem Tm.lower {base base' H T : Nat} {f : Nat → Int} {R : List (List Int)} {fo en : List Nat} {V1 V2 V3 : Value} {Us : List Value} {u : World} (h : Tm base H T f R fo en V1 V2 V3 Us u) (hb : base' ≤ base) : Tm base' H T f R fo en V1 V2 V3 Us u := by
  have hr : ∀ {t : TypeId} {V : Value} {k : Nat} {xs : List Value}, u.ownsRow base t 1 V k xs → u.ownsRow base' t 1 V k xs := fun hr => ⟨hr.1, by
    rcases hr.2 with h2 | ⟨g, cap, cur, hv, hBg, hg, rest⟩
    · exact Or.inl h2
    · exact Or.inr ⟨g, cap, cur, hv, by omega, hg, rest⟩⟩
  exact ⟨h.db, ⟨h.tH.1, by have := h.tH.2.1; omega, h.tH.2.2⟩, hr h.nx, fun t r V h1 h2 => ⟨(h.row t r V h1 h2).1, hr (h.row t r V h1 h2).2⟩, h.inj, hr h.fo, hr h.en, h.own⟩
set_option maxRecDepth 20000 in
set_option maxHeartbeats 8000000 in
theorem decode_any (a : Option Addr) (n cap : Nat) (b : List Int) (w : World) (hn : n = b.length) (hc : n ≤ cap) (hm : n ≤ 140737488355328) (hb : BytesAt w a b) (hbs : Rec.Bs b) (hT : Tab w) (h0 : 0 < w.heap.size) :
    Calls Tryd.prog 10 #[.slice a n cap] w (DecPost b w) := by
  obtain ⟨A, hA⟩ : ∃ A, w.heap.size = A := ⟨_, rfl⟩
  obtain ⟨w1, hw1⟩ : ∃ w1, w.alloc (.cells (dv (fun _ => 0) nilV nilV nilV) 26) = w1 := ⟨_, rfl⟩
  have k1 : Below w.heap.size w w1 := by rw [← hw1]; exact (Below.refl _ _).alloc (Nat.le_refl _) _
  have HDB : Hid (DB w1 A (fun _ => 0) nilV nilV nilV) := by rw [← hw1, ← hA]; exact db_new w _ _ _ _
  have HSU : Hid (Calls Tryd.prog 23 #[.slice a n cap] w1 fun e w' => e = .returned (.bool (sumT b)) ∧ Below w1.heap.size w1 w') := sum_any a n cap b w1 hn hc hm (bytesAt_later k1 hb) hbs (tab_below k1 h0 hT) (by have := k1.size; omega)
  have HW1 : Hid (w.alloc (.cells (dv (fun _ => 0) nilV nilV nilV) 26) = w1) := hw1
  have HAA : Hid (w.heap.size = A) := hA
  have HK1 : Hid (Below w.heap.size w w1) := k1
  have HB : Hid (Rec.Bs b) := hbs
  have HBT : Hid (BytesAt w a b) := hb
  have HN : Hid (n = b.length) := hn
  have HOK : Hid (okT b = (sumT b && (wholeT (frontB b) && rightT (rdT (frontB b))))) := rfl
  have HS4 : Hid (sumT b = true → 4 ≤ n) := fun h => by
    unfold sumT at h
    rw [Bool.and_eq_true, decide_eq_true_eq] at h
    rw [hn]
    exact h.1
  clear hn hb hbs hA hw1 k1 hT
  have hz := zeroDfa
  obtain ⟨sm, hsm⟩ : ∃ sm, sumT b = sm := ⟨_, rfl⟩
  rw [hsm] at HSU HOK HS4
  clear hsm
  go_enter Tryd.func10, Tryd.ntmps10
  go_upto_region 1 with fail
  rw [HW1.out, HAA.out]
  clear HW1
  go_wp2_with fail
  refine HSU.out.mono ?_
  rintro e w2 ⟨rfl, k2⟩
  have HK2 : Hid (Below w.heap.size w w2) := below_step HK1.out k2
  have HDB2 : Hid (DB w2 A (fun _ => 0) nilV nilV nilV) := HDB.out.later k2
  clear HSU k2 HDB HK1
  cases sm with
  | false =>
    have HF : Hid (okT b = false) := by show _ = _; rw [HOK.out]; rfl
    have HE : Hid (Below w.heap.size w (w2.setRow A (dv (fun _ => 0) nilV nilV nilV))) := below_row HK2.out (by have := HAA.out; omega) _
    have HRES : Hid (DB (w2.setRow A (dv (fun _ => 0) nilV nilV nilV)) A (fun _ => 0) nilV nilV nilV) := HDB2.out.row _ _ _ _
    go_wp2_with (first
      | refine wpList_build_dfa0 rfl rfl ?_
      | refine wpList_store_dfa rfl (.tmp 2) (.tmp 9) rfl HDB2.out ⟨rfl, rfl, rfl⟩ rfl rfl ?_)
    exact bodyPost_ret (results_dfa rfl _ _ HRES.out (v := .int .i64 120) rfl rfl) rfl ⟨.inr ⟨HF.out, rfl⟩, HE.out⟩
  | true =>
  have hn4 := HS4.out (by trivial)
  obtain ⟨m, rfl⟩ : ∃ m, n = m + 4 := ⟨n - 4, by omega⟩
  have hlm : b.length - 4 = m := by have := HN.out; omega
  have HFB : Hid (frontB b = b.take m) := by show _ = _; unfold frontB; rw [hlm]
  have HRD : Hid (Calls Tryd.prog 24 #[.slice a m cap] w2 (ReadPost (frontB b) w2)) := by
    refine read_any' a m cap (frontB b) w2 ?_ ?_ ?_ (by omega)
    · rw [HFB.out, List.length_take]; omega
    · rw [HFB.out]; exact bytesAt_take m (bytesAt_later HK2.out HBT.out)
    · rw [HFB.out]; exact Rec.bs_take HB.out m
  have HBF : Hid (Rec.Bs (frontB b)) := by rw [HFB.out]; exact Rec.bs_take HB.out m
  have hm0 : (0 : Int) ≤ (m : Int) := by omega
  have hmc : (m : Int) ≤ (cap : Int) := by omega
  clear hlm hn4 HS4 HN
  go_wp2_with fail
  refine HRD.out.mono ?_
  rintro e w3 ⟨f, V1, V2, V3, rfl, hone, k3, htm⟩
  have HK3 : Hid (Below w.heap.size w w3) := below_step HK2.out k3
  have HDB3 : Hid (DB w3 A (fun _ => 0) nilV nilV nilV) := HDB2.out.later k3
  have HONE : Hid (V1.oneCell' = true ∧ V2.oneCell' = true ∧ V3.oneCell' = true) := hone
  have HTM : Hid (wholeT (frontB b) = true → f = rdCl (frontB b) ∧ ∃ Us Hb T, A < T ∧ Tm w.heap.size Hb T (rdCl (frontB b)) (rdT (frontB b)).nx (rdT (frontB b)).fo (rdT (frontB b)).en V1 V2 V3 Us w3) := fun h => by
    obtain ⟨h1, Us, Hb, T, h2⟩ := htm h
    exact ⟨h1, Us, Hb, T, by have := h2.tH.2.1; have := HDB2.out.lt; omega, h2.lower HK2.out.size⟩
  obtain ⟨w4, hw4⟩ : ∃ w4, w3.alloc (.cells (dv (fun _ => 0) nilV nilV nilV) 26) = w4 := ⟨_, rfl⟩
  obtain ⟨D, hD⟩ : ∃ D, w3.heap.size = D := ⟨_, rfl⟩
  have k4 : Below w3.heap.size w3 w4 := by rw [← hw4]; exact (Below.refl _ _).alloc (Nat.le_refl _) _
  have HD4 : Hid (DB w4 D (fun _ => 0) nilV nilV nilV) := by rw [← hw4, ← hD]; exact db_new w3 _ _ _ _
  obtain ⟨w5, hw5⟩ : ∃ w5, w4.setRow D (dv f V1 V2 V3) = w5 := ⟨_, rfl⟩
  have HD5 : Hid (DB w5 D f V1 V2 V3) := by rw [← hw5]; exact HD4.out.row _ _ _ _
  have k5 : Below w3.heap.size w3 w5 := by rw [← hw5]; exact below_row k4 (by omega) _
  have HK5 : Hid (Below w.heap.size w w5) := below_step HK3.out k5
  have HDB5 : Hid (DB w5 A (fun _ => 0) nilV nilV nilV) := HDB3.out.later k5
  have HTM5 : Hid (wholeT (frontB b) = true → f = rdCl (frontB b) ∧ ∃ Us Hb T, A < T ∧ Tm w.heap.size Hb T (rdCl (frontB b)) (rdT (frontB b)).nx (rdT (frontB b)).fo (rdT (frontB b)).en V1 V2 V3 Us w5) := fun h => by
    obtain ⟨h1, Us, Hb, T, h3, h2⟩ := HTM.out h
    exact ⟨h1, Us, Hb, T, h3, h2.later k5⟩
  have HW4 : Hid (w3.alloc (.cells (dv (fun _ => 0) nilV nilV nilV) 26) = w4) := hw4
  have HW5 : Hid (w4.setRow D (dv f V1 V2 V3) = w5) := hw5
  have HDD : Hid (w3.heap.size = D) := hD
  have HFA : Hid ((wholeT (frontB b) && rightT (rdT (frontB b))) = okT b) := by show _ = _; rw [HOK.out]; rfl
  clear hw4 hw5 hD k4 k5 hone k3 htm HRD HK2 HDB2 HTM HK3 HDB3 HOK
  have hal : ∀ x, w3.alloc (.cells (dv (fun _ => 0) nilV nilV nilV) 26) = x → x = w4 := fun x h => h.symm.trans HW4.out
  clear hal
  obtain ⟨wh, hwh⟩ : ∃ wh, wholeT (frontB b) = wh := ⟨_, rfl⟩
  rw [hwh] at HTM5 HFA
  have HWH : Hid (wholeT (frontB b) = wh) := hwh
  rw [hwh]
  clear hwh
  go_upto_region 4 with (refine wpList_store_dfa rfl (.tmp 4) (.tmp 17) rfl (db_new w3 (fun _ => 0) nilV nilV nilV) HONE.out rfl rfl ?_; rw [HW4.out, HDD.out, HW5.out])
  cases wh with
  | false =>
    have HF : Hid (okT b = false) := by show _ = _; rw [← HFA.out]; rfl
    have HE : Hid (Below w.heap.size w (w5.setRow A (dv (fun _ => 0) nilV nilV nilV))) := below_row HK5.out (by have := HAA.out; omega) _
    have HRES : Hid (DB (w5.setRow A (dv (fun _ => 0) nilV nilV nilV)) A (fun _ => 0) nilV nilV nilV) := HDB5.out.row _ _ _ _
    clear HTM5
    go_wp2_with (first
      | refine wpList_build_dfa0 rfl rfl ?_
      | refine wpList_store_dfa rfl (.tmp 2) (.tmp 26) rfl HDB5.out ⟨rfl, rfl, rfl⟩ rfl rfl ?_)
    exact bodyPost_ret (results_dfa rfl _ _ HRES.out (v := .int .i64 120) rfl rfl) rfl ⟨.inr ⟨HF.out, rfl⟩, HE.out⟩
  | true =>
  obtain ⟨hf, Us, Hb, T, hAT, htm⟩ := HTM5.out (by trivial)
  have HAT : Hid (A < T) := hAT
  clear hAT
  subst hf
  obtain ⟨bf, be⟩ := rdT_words HBF.out
  have hdf : DfAt w5 (rdT (frontB b)) V1 V2 V3 Us := htm.read bf be
  have HRI : Hid (Calls Tryd.prog 11 #[.agg (dv (rdCl (frontB b)) V1 V2 V3)] w5 fun e w' => e = .returned (.bool (rightT (rdT (frontB b)))) ∧ Below w5.heap.size w5 w') := right_any (rdT (frontB b)) V1 V2 V3 Us w5 hdf
  have HTMX : Hid (Tm w.heap.size Hb T (rdCl (frontB b)) (rdT (frontB b)).nx (rdT (frontB b)).fo (rdT (frontB b)).en V1 V2 V3 Us w5) := htm
  have HFA2 : Hid (rightT (rdT (frontB b)) = okT b) := HFA.out
  obtain ⟨r, hr⟩ : ∃ r, rightT (rdT (frontB b)) = r := ⟨_, rfl⟩
  rw [hr] at HRI HFA2
  clear hr hdf htm bf be HTM5 HFA
  have HFB' : Hid (frontB b = b.take m) := HFB.out
  obtain ⟨zs, hzs⟩ : ∃ zs, frontB b = zs := ⟨_, rfl⟩
  have HZS : Hid (frontB b = zs) := hzs
  rw [hzs] at HRI HTMX HD5 HW5
  rw [hzs]
  clear hzs
  obtain ⟨fs, hu⟩ := underD
  have HU : Hid (Tryd.prog.underlying 26 = some (.struct fs)) := hu
  clear hu
  go_wp2_with fail
  refine wp_load_row _ (.tmp 4) rfl D rfl _ _ (0, 0) _ HD5.out HU.out rfl (by rw [dv_size]; exact sizeD) ?_
  go_wp2_with fail
  refine HRI.out.mono ?_
  rintro e w6 ⟨rfl, k6⟩
  have HK6 : Hid (Below w.heap.size w w6) := below_step HK5.out k6
  have HDB6 : Hid (DB w6 A (fun _ => 0) nilV nilV nilV) := HDB5.out.later k6
  have HD6 : Hid (DB w6 D (rdCl zs) V1 V2 V3) := HD5.out.later k6
  have HTM6 : Hid (Tm w.heap.size Hb T (rdCl zs) (rdT zs).nx (rdT zs).fo (rdT zs).en V1 V2 V3 Us w6) := HTMX.out.later k6
  clear k6 HRI HK5 HDB5 HD5 HTMX
  cases r with
  | false =>
    have HF : Hid (okT b = false) := by show _ = _; rw [← HFA2.out]
    have HE : Hid (Below w.heap.size w (w6.setRow A (dv (fun _ => 0) nilV nilV nilV))) := below_row HK6.out (by have := HAA.out; omega) _
    have HRES : Hid (DB (w6.setRow A (dv (fun _ => 0) nilV nilV nilV)) A (fun _ => 0) nilV nilV nilV) := HDB6.out.row _ _ _ _
    go_wp2_with (first
      | refine wpList_build_dfa0 rfl rfl ?_
      | refine wpList_store_dfa rfl (.tmp 2) (.tmp 26) rfl HDB6.out ⟨rfl, rfl, rfl⟩ rfl rfl ?_)
    exact bodyPost_ret (results_dfa rfl _ _ HRES.out (v := .int .i64 120) rfl rfl) rfl ⟨.inr ⟨HF.out, rfl⟩, HE.out⟩
  | true =>
    have HF : Hid (okT b = true) := by show _ = _; rw [← HFA2.out]
    have HE : Hid (Below w.heap.size w (w6.setRow A (dv (rdCl zs) V1 V2 V3))) := below_row HK6.out (by have := HAA.out; omega) _
    have HRES : Hid (DB (w6.setRow A (dv (rdCl zs) V1 V2 V3)) A (rdCl zs) V1 V2 V3) := HDB6.out.row _ _ _ _
    have HTM7 : Hid (Tm w.heap.size Hb T (rdCl (frontB b)) (rdT (frontB b)).nx (rdT (frontB b)).fo (rdT (frontB b)).en V1 V2 V3 Us (w6.setRow A (dv (rdCl zs) V1 V2 V3))) := by
      rw [HZS.out]
      refine HTM6.out.keep (by rw [size_row]; exact Nat.le_refl _) (fun c t hc ht hne hd => heap_row _ _ _ _ (fun e => by
      subst e
      have hcT : c = T := hd (TyB.ne ht HDB6.out.ty)
      have := HAT.out
      omega))
    go_wp2_with (first
      | refine wpList_load_dfa rfl (.tmp 4) rfl HD6.out rfl ?_
      | refine wpList_store_dfa rfl (.tmp 2) (.tmp 27) rfl HDB6.out HONE.out rfl rfl ?_)
    exact bodyPost_ret (results_dfa rfl _ _ HRES.out (v := .int .i64 0) rfl rfl) rfl ⟨.inl ⟨HF.out, V1, V2, V3, Us, Hb, T, by rw [HZS.out], HTM7.out⟩, HE.out⟩
end Go.Proofs.YtdngileimmgdnaaDoor

/- Two tables held against each other: heronref10.Same, heronlaw12.same. -/
namespace Go.Proofs.YtdngileimmgdnaaDoor
open Go.RowKit
attribute [local go_sem ↓] Go.wp_at_zero Go.wp_at_succ

theorem mapM_some {α β : Type} (l : List α) (f : α → Option β) (g : α → β) (h : ∀ x ∈ l, f x = some (g x)) : l.mapM f = some (l.map g) := by
  induction l with
  | nil => rfl
  | cons x l ih =>
    rw [List.mapM_cons, h x (by simp), ih (fun y hy => h y (by simp [hy]))]
    rfl
theorem flat_ones {α β : Type} (g : α → β) : ∀ l : List α, (l.map fun i => [g i]).flatten = l.map g
  | [] => rfl
  | x :: l => by simp [flat_ones g l]
/-- numbers of 64 bits -/
def R64 (f : Nat → Int) : Prop := ∀ i, i < 256 → -9223372036854775808 ≤ f i ∧ f i < 9223372036854775808
theorem keyL (f : Nat → Int) (hf : R64 f) : Tryd.prog.keyLits (Tryd.prog.types.size + 1) 22 (Value.agg (cv f)).cells.toList = some ((List.range 256).map fun i => Lit.int .i64 (f i)) := by
  have hc : Tryd.prog.cellsOf 22 = 256 := by kernel_rfl
  have hc2 : Tryd.prog.cellsOf 3 = 1 := by kernel_rfl
  have hu2 : Tryd.prog.underlying 3 = some (.int .i64) := by kernel_rfl
  obtain ⟨n, hn⟩ : ∃ n, Tryd.prog.types.size = n + 1 := ⟨Tryd.prog.types.size - 1, by kernel_rfl⟩
  have hs : ((List.range 256).mapM fun i => Tryd.prog.keyLits (n + 1) 3 (((cv f).toList.drop (i * 1)).take 1)) = some ((List.range 256).map fun i => [Lit.int .i64 (f i)]) := by
    refine mapM_some _ _ _ (fun i hi => ?_)
    have hi : i < 256 := by simpa using hi
    have e : ((cv f).toList.drop (i * 1)).take 1 = [.int .i64 (f i)] := by
      have h := cv_at f hi
      rw [← Array.getElem?_toList] at h
      rw [Nat.mul_one, List.drop_eq_getElem_cons (List.getElem?_eq_some_iff.1 h).1]
      simp [(List.getElem?_eq_some_iff.1 h).2]
    rw [e]
    have hw : (Lit.int .i64 (f i)).wf = true := by
      have := hf i hi
      simp [Lit.wf, IntKind.min, IntKind.max, IntKind.signed, IntKind.bits]; omega
    simp [Program.keyLits, hu2, hw]
  rw [hn, Program.keyLits.eq_def]
  simp only [underArr, Value.cells, Array.length_toList, cv_size, hc, hc2, if_true]
  rw [hs]
  rw [Option.map_some, flat_ones (fun i => Lit.int .i64 (f i))]
/-- the same classes -/
def clB (f g : Nat → Int) : Bool := (List.range 256).all fun i => f i == g i
theorem clB_iff (f g : Nat → Int) : clB f g = true ↔ ∀ i, i < 256 → f i = g i := by simp [clB]
theorem eqArr (f g : Nat → Int) (hf : R64 f) (hg : R64 g) (w : World) : (Op.equalIn 10000 22 (.agg (cv f)) (.agg (cv g))).run Tryd.prog w = .ok (clB f g) w := by
  have hfm : ∀ f : Nat → Int, (Value.agg (cv f)).formed Tryd.prog 22 = true := fun f => by
    have hc : Tryd.prog.cellsOf 22 = 256 := by kernel_rfl
    simp [Value.formed, hc, cv_size]
  obtain ⟨r, hr, hi⟩ := run_equalIn_deep (9998) 2 22 (by kernel_rfl) w _ _ (.agg (cv f)) (.agg (cv g)) _ _ (hfm f) (hfm g) (keyL f hf) (keyL g hg)
  have e : r = clB f g := by
    rw [Bool.eq_iff_iff, hi, clB_iff]
    constructor
    · intro h i hlt
      have := congrArg (fun l => l[i]?) h
      simpa [hlt] using this
    · intro h
      exact List.map_congr_left (fun i hlt => by rw [h i (by simpa using hlt)])
  rw [← e]
  exact hr
theorem wp_load_cls {o : Oper} {a : Act} {w : World} {K : Act → World → Prop} {Q : Exit → Act → World → Prop} (x : Operand) (ho : o.op = .load 22 x) {A k : Nat} {f : Nat → Int} (h : ∀ i, i < 256 → w.cell? ⟨A, k + i, none⟩ = some (.int .i64 (f i))) (hx : a.eval x = .pointer (some ⟨A, k, none⟩))
    (hk : K (a.put o.dst (.agg (cv f))) w) : o.wp Tryd.prog a w K Q := by
  refine wp_load_mid 22 x ho A k hx (cv f).toList _ (fun j v hj => ?_) underArr rfl (by rw [Array.length_toList, cv_size]; exact sizeArr) (by simpa using hk)
  have hl := (List.getElem?_eq_some_iff.1 hj).1
  rw [Array.length_toList, cv_size] at hl
  rw [Array.getElem?_toList, cv_at f hl] at hj
  cases hj
  exact h j hl
/-- TWO TABLES ARE THE SAME -/
def sameT (a b : Dt) : Bool := clB a.cl b.cl && (decide (a.nx = b.nx) && (decide (a.fo = b.fo) && decide (a.en = b.en)))
theorem sameT_iff (a b : Dt) : sameT a b = true ↔ sameD a b := by
  unfold sameT sameD
  simp only [Bool.and_eq_true, decide_eq_true_eq, clB_iff]
theorem sameT_cl {a b : Dt} (h : clB a.cl b.cl = false) : sameT a b = false := by unfold sameT; rw [h]; rfl
theorem sameT_no {a b : Dt} (h : ¬ (a.nx = b.nx ∧ a.fo = b.fo ∧ a.en = b.en)) : sameT a b = false := by
  cases hs : sameT a b
  · rfl
  · exact absurd ((sameT_iff a b).1 hs).2 h
theorem row_ne {a b : Dt} {s : Nat} (h : a.row s ≠ b.row s) : sameT a b = false := sameT_no (fun e => h (by unfold Dt.row; rw [e.1]))
theorem rows_eq {a b : Dt} (hl : a.S = b.S) (h : ∀ s, s < a.S → a.row s = b.row s) : a.nx = b.nx := by
  apply List.ext_getElem hl
  intro s h1 h2
  have e := h s h1
  unfold Dt.row at e
  rw [List.getD_eq_getElem?_getD, List.getD_eq_getElem?_getD, List.getElem?_eq_getElem h1, List.getElem?_eq_getElem h2] at e
  exact e
theorem list_eq {α : Type} {l m : List α} (z : α) (hl : l.length = m.length) (h : ∀ s, s < l.length → l.getD s z = m.getD s z) : l = m := by
  apply List.ext_getElem hl
  intro s h1 h2
  have e := h s h1
  rw [List.getD_eq_getElem?_getD, List.getD_eq_getElem?_getD, List.getElem?_eq_getElem h1, List.getElem?_eq_getElem h2] at e
  exact e
/-- two tables boxed -/
structure Sx (w u : World) (D : Nat) (a b : Dt) (A1 A2 A3 B1 B2 B3 : Value) (As Bs : List Value) : Prop where
  da : DB u D a.cl A1 A2 A3
  db : DB u (D + 1) b.cl B1 B2 B3
  ta : DfAt u a A1 A2 A3 As
  tb : DfAt u b B1 B2 B3 Bs
  low : Below w.heap.size w u
theorem Sx.later {w u v : World} {D : Nat} {a b : Dt} {A1 A2 A3 B1 B2 B3 : Value} {As Bs : List Value} (h : Sx w u D a b A1 A2 A3 B1 B2 B3 As Bs) (hb : Below u.heap.size u v) : Sx w v D a b A1 A2 A3 B1 B2 B3 As Bs :=
  ⟨h.da.later hb, h.db.later hb, h.ta.later hb, h.tb.later hb, below_step h.low hb⟩
theorem Sx.drew {w u : World} {D : Nat} {a b : Dt} {A1 A2 A3 B1 B2 B3 : Value} {As Bs : List Value} (h : Sx w u D a b A1 A2 A3 B1 B2 B3 As Bs) (n : Nat) : Sx w (u.drewN n) D a b A1 A2 A3 B1 B2 B3 As Bs := h.later (below_drewN (Below.refl _ _) n)
end Go.Proofs.YtdngileimmgdnaaDoor
