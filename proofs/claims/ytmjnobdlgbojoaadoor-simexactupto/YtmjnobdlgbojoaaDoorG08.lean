/- sim's Rules, States, End. -/
import Derived.Test.YtmjnobdlgbojoaaDoorG07
namespace Go.Proofs.YtmjnobdlgbojoaaDoor
open Go.RowKit
attribute [local go_sem ↓] Go.wp_at_zero Go.wp_at_succ

theorem rules_any {base : Nat} {M : Ma} {S : Nat} {g : Oct.S} {r : Nat} {bg : Bool} (Wb : Nat) (w : World) (h : WkAt base w Wb M S g r bg) : Calls Tryd.prog 10 #[.pointer (some ⟨Wb, 0, none⟩)] w fun e w' => e = .returned (.int .u32 (r : Nat)) ∧ w' = w := by
  obtain ⟨_, mb, ra, rc, b, c, h1, _⟩ := h
  obtain ⟨_, _, _, c3, _⟩ := h1.cells
  clear h1
  go_enter Tryd.func10, Tryd.ntmps10
  go_wp2
  go_ret
  exact ⟨rfl, rfl⟩
set_option maxHeartbeats 2000000 in
theorem states_any {base : Nat} {M : Ma} {S : Nat} {g : Oct.S} {r : Nat} {bg : Bool} (Wb : Nat) (w : World) (h : WkAt base w Wb M S g r bg) (hT : Tab w) (hS : S ≤ 35184372088832) (hlt : ∀ s, g s = true → s < S) (hcnt : (Oct.els g S).length ≤ 17592186044415) : Calls Tryd.prog 9 #[.pointer (some ⟨Wb, 0, none⟩)] w fun e w' => ∃ v, e = .returned v ∧ Stk w' w.heap.size v (Oct.els g S) ∧ Below w.heap.size w w' := by
  obtain ⟨_, mb, ra, rc, b, c, h1, _, _, _, h5⟩ := h
  obtain ⟨_, _, c2, _, _⟩ := h1.cells
  obtain ⟨n, hn⟩ : ∃ n, n = (S + 63) / 64 := ⟨_, rfl⟩
  rw [← hn] at h5 c2
  have kk : Below w.heap.size w (w.alloc (.cells #[.slice (some ⟨b, 0, none⟩) n c] 66)) := (Below.refl _ _).alloc (Nat.le_refl _) _
  have he : Oct.els g (64 * n) = Oct.els g S := els_all hlt (by omega)
  have HC : Hid (Calls Tryd.prog 30 #[.func (.func 46) #[] #[.pointer (some ⟨w.heap.size, 0, none⟩)]] (w.alloc (.cells #[.slice (some ⟨b, 0, none⟩) n c] 66)) _) :=
    collect_any w.heap.size b n c base g _ (Boxed.new w 66 (.slice (some ⟨b, 0, none⟩) n c)).cell (h5.later kk) (hT.later kk) (by omega) (by rw [he]; omega)
  have HON : Hid (Calls Tryd.prog 31 #[.slice (some ⟨b, 0, none⟩) n c] w _) := on_any b n c w
  have HE : Hid (Oct.els g (64 * n) = Oct.els g S) := he
  have HK : Hid (Below w.heap.size w (w.alloc (.cells #[.slice (some ⟨b, 0, none⟩) n c] 66))) := kk
  clear h1 h5 hT hlt hcnt kk he hn
  go_enter Tryd.func9, Tryd.ntmps9
  go_wp2_with fail
  refine HON.out.mono ?_
  rintro e w1 ⟨rfl, rfl⟩
  clear HON
  go_wp2_with fail
  refine HC.out.mono ?_
  rintro e w1 ⟨V, rfl, hst, hb1⟩
  have H1 : Hid (Stk w1 w.heap.size V (Oct.els g S)) := by
    rw [HE.out] at hst
    exact ownsRow_low hst (by simp)
  have H2 : Hid (Below w.heap.size w w1) := HK.out.trans (hb1.mono (by simp))
  clear hst hb1 HC
  go_wp2
  go_ret
  exact ⟨V, rfl, H1.out, H2.out⟩
set_option maxRecDepth 8000 in
set_option maxHeartbeats 8000000 in
theorem end_any {base : Nat} {M : Ma} {S : Nat} {g : Oct.S} {r : Nat} {bg : Bool} (Wb : Nat) (w : World) (h : WkAt base w Wb M S g r bg) (hM : Fits M S) (hT : Tab w) (hS : S ≤ 35184372088832) (hel : M.es.length ≤ 2513169434900) (hr : r < 4294967296) (hlt : ∀ s, g s = true → s < S) (hcnt : ∀ s, g s = true → s = 0 ∨ ∃ y ∈ M.es, y.t.toNat = s) : Calls Tryd.prog 11 #[.pointer (some ⟨Wb, 0, none⟩)] w fun e w' => ∃ x, e = .returned (.int .u32 (x : Nat)) ∧ EndOf M (!bg) g r x ∧ Below w.heap.size w w' := by
  obtain ⟨hb, mb, ra, rc, b, c, h1, h2, h3, h4, h5⟩ := h
  obtain ⟨c0, c1, c2, c3, c4⟩ := h1.cells
  obtain ⟨n, hn⟩ : ∃ n, n = (S + 63) / 64 := ⟨_, rfl⟩
  rw [← hn] at h1 h5 c2
  have hn1 : S ≤ 64 * n := by omega
  have hn2 : n ≤ 2513169434900 := by omega
  have hn0 : 0 < n := by have := hM.1; omega
  have HCL : Hid (Calls Tryd.prog 32 #[.slice (some ⟨b, 0, none⟩) n c] w _) := cloneRow_any b 0 n c (gws g n) w (gws_length g n) hn0 (fun j u hj => by
    have hjl := (List.getElem?_eq_some_iff.1 hj).1
    rw [gws_length] at hjl
    rw [gws_at g hjl] at hj
    cases hj
    rw [Nat.zero_add]
    exact (h5.cell hjl).1) (fun u hu => by unfold gws at hu; obtain ⟨i, _, rfl⟩ := List.mem_map.1 hu; rfl) (by omega)
  have HT : Hid (Tab w) := hT
  have HWK : Hid (WkB w Wb mb (.slice ra S rc) (.slice (some ⟨b, 0, none⟩) n c) r bg) := h1
  have HBY : Hid (ByB base w mb M.es) := h3
  have HUB : Hid (UB base w ra M.rs) := h4
  have HM : Hid (Fits M S) := hM
  have HLT : Hid (∀ s, g s = true → s < S) := hlt
  have HCN : Hid (∀ s, g s = true → s = 0 ∨ ∃ y ∈ M.es, y.t.toNat = s) := hcnt
  -- spread upon the copy, in whatever world it lies
  have HSPR : Hid (∀ (u : World) (b' cap kb kn : Nat) (ks : List Int), Below w.heap.size w u → w.heap.size ≤ b' → RowG u w.heap.size b' n cap g → ks.length = kn → kn ≤ 1000 → KsAt u (some ⟨kb, 0, none⟩) ks → kb ≠ b' →
      Calls Tryd.prog 33 #[.pointer (some ⟨Wb, 0, none⟩), .slice (some ⟨b', 0, none⟩) n cap, .slice (some ⟨kb, 0, none⟩) kn kn] u fun e w' => e = .returned (.tuple #[]) ∧ ∃ h, IsCl M.es (fun y => hasK ks y.k) g h ∧ RowG w' w.heap.size b' n cap h ∧ u.grownBy w' (some b')) := fun u b' cap kb kn ks hu hb' hr' hkn hk1 hks hkb => by
    have hby := byB_later h3 hu
    have hwk := h1.same (hu.block Wb h1.lt)
    exact spread_any (X := fun k => TyB u 34 k) Wb mb b' n cap w.heap.size kn kn (some ⟨kb, 0, none⟩) ks M.es g u hwk.cells.1 (fun e => by have := h1.lt; omega) (hby.keep rfl (fun k h _ => h.2) (fun _ _ _ => rfl)) (fun k hk e => by subst e; exact absurd (TyB.ne hk hr'.ty) (by decide)) (fun e => by have := h3.lt; omega) hr' (hT.later hu) (by have := hT.pos; omega) hn2 hkn hk1 hks (fun k off e => by cases e; exact hkb) (fun s hs => Nat.lt_of_lt_of_le (hlt s hs) hn1) (fun y hy => by have := hM.2.2.2.1 y hy; omega) hel
      (fun g' hg => Nat.le_trans (cnt_le (es := M.es) (fun s hs => rch_cnt hcnt (hg s hs))) (by omega))
  have HRUL : Hid (∀ (u : World) (b' cap : Nat) (h : Oct.S), Below w.heap.size w u → RowG u w.heap.size b' n cap h → (∀ s, h s = true → s < S) → Calls Tryd.prog 34 #[.pointer (some ⟨Wb, 0, none⟩), .slice (some ⟨b', 0, none⟩) n cap] u fun e W' => e = .returned (.int .u32 (rulesG M.rs h : Nat)) ∧ Below u.heap.size u W') := fun u b' cap h hu hr' hlt' => by
    have hh := rulesOf_any (X := fun k => base ≤ k ∧ TyB u 28 k) Wb b' n cap w.heap.size S rc ra M.rs h u (h1.same (hu.block Wb h1.lt)).cells.2.1 hM.2.2.1 (uB_later h4 hu) hM.2.2.2.2 hr' (hT.later hu) hn2 hlt'
    rw [els_all hlt' hn1, ← hM.2.2.1] at hh
    exact hh
  have HCELL : Hid (∀ u, Below w.heap.size w u → u.cell? ⟨Wb, 3, none⟩ = some (.int .u32 (r : Nat)) ∧ u.cell? ⟨Wb, 4, none⟩ = some (.bool bg)) := fun u hu => ⟨(h1.same (hu.block Wb h1.lt)).cells.2.2.2.1, (h1.same (hu.block Wb h1.lt)).cells.2.2.2.2⟩
  clear h1 h2 h3 h4 h5 hM hT hlt hcnt hn hb c0 c1
  go_enter Tryd.func11, Tryd.ntmps11
  go_wp2_with fail
  refine HCL.out.mono ?_
  rintro e w1 ⟨b', cap, rfl, hrow, k1⟩
  have HR1 : Hid (RowG w1 w.heap.size b' n cap g) := hrow
  have HB1 : Hid (Below w.heap.size w w1) := k1
  have hb' : w.heap.size ≤ b' ∧ b' < w1.heap.size := ⟨HR1.out.lt.2.1, HR1.out.lt.1⟩
  obtain ⟨d3, d4⟩ := HCELL.out w1 k1
  clear HCL hrow k1 c2 c3 c4
  cases bg with
  | true =>
    have kk : Below w1.heap.size w1 (w1.alloc (.cells #[.int .i64 1, .int .i64 4] 3)) := (Below.refl _ _).alloc (Nat.le_refl _) _
    have hks := ksAt_two w1 3 1 4
    have HB2 : Hid (Below w.heap.size w (w1.alloc (.cells #[.int .i64 1, .int .i64 4] 3))) := below_step HB1.out kk
    have HS : Hid (Calls Tryd.prog 33 #[.pointer (some ⟨Wb, 0, none⟩), .slice (some ⟨b', 0, none⟩) n cap, .slice (some ⟨w1.heap.size, 0, none⟩) 2 2] (w1.alloc (.cells #[.int .i64 1, .int .i64 4] 3)) _) := HSPR.out _ b' cap w1.heap.size 2 [1, 4] HB2.out hb'.1 (HR1.out.later kk) rfl (by decide) hks (by omega)
    clear kk hks HSPR
    go_wp2_with fail
    refine HS.out.mono ?_
    rintro e w2 ⟨rfl, h, hcl, hr2, hg2⟩
    have HB3 : Hid (Below w.heap.size w w2) := HB2.out.grown hg2 HB2.out.size (fun k hk => by cases hk; exact hb'.1)
    have HEN : Hid (EndOf M false g r (r ||| rulesG M.rs h)) := ⟨h, by rw [kinds_14] at hcl; exact hcl, rfl⟩
    have hlt2 : ∀ s, h s = true → s < S := fun s hs => hcl.lt HLT.out (fun y hy => by have := HM.out.2.2.2.1 y hy; omega) hs
    have HRU : Hid (∀ u, Below w2.heap.size w2 u → Calls Tryd.prog 34 #[.pointer (some ⟨Wb, 0, none⟩), .slice (some ⟨b', 0, none⟩) n cap] u fun e W' => e = .returned (.int .u32 (rulesG M.rs h : Nat)) ∧ Below u.heap.size u W') := fun u hu => HRUL.out u b' cap h (below_step HB3.out hu) (hr2.later hu) hlt2
    obtain ⟨d3, d4⟩ := HCELL.out w2 HB3.out
    obtain ⟨ρ, hρ⟩ : ∃ ρ, rulesG M.rs h = ρ := ⟨_, rfl⟩
    have hρl : ρ < 4294967296 := by rw [← hρ]; exact rulesG_lt HM.out.2.2.2.2
    rw [hρ] at HRU HEN
    have HOR : Hid (bits .or .u32 (r : Nat) (ρ : Nat) = ((r ||| ρ : Nat) : Int)) := u32_or_nat r ρ hr hρl
    clear hcl hr2 hg2 hlt2 hρ HS HRUL HR1 HB1 HB2
    go_upto_region 5 with fail
    go_region_with (go_at_call 34; refine (HRU.out _ ((Below.refl _ _).drew)).mono ?_; rintro e u ⟨rfl, hu⟩; have HU : Hid (Below w.heap.size w u) := below_step (HB3.out.trans (((Below.refl _ w2).drew).mono HB3.out.size)) hu; obtain ⟨d5, d6⟩ := HCELL.out u HU.out; clear hu)
    all_goals
      go_wp2
      go_ret
      exact ⟨r ||| ρ, ret_int HOR.out, HEN.out, HU.out⟩
  | false =>
    have kk : Below w1.heap.size w1 (w1.alloc (.cells #[.int .i64 1, .int .i64 4, .int .i64 3] 3)) := (Below.refl _ _).alloc (Nat.le_refl _) _
    have hks := ksAt_three w1 3 1 4 3
    have HB2 : Hid (Below w.heap.size w (w1.alloc (.cells #[.int .i64 1, .int .i64 4, .int .i64 3] 3))) := below_step HB1.out kk
    have HS : Hid (Calls Tryd.prog 33 #[.pointer (some ⟨Wb, 0, none⟩), .slice (some ⟨b', 0, none⟩) n cap, .slice (some ⟨w1.heap.size, 0, none⟩) 3 3] (w1.alloc (.cells #[.int .i64 1, .int .i64 4, .int .i64 3] 3)) _) := HSPR.out _ b' cap w1.heap.size 3 [1, 4, 3] HB2.out hb'.1 (HR1.out.later kk) rfl (by decide) hks (by omega)
    clear kk hks HSPR
    go_wp2_with fail
    refine HS.out.mono ?_
    rintro e w2 ⟨rfl, h, hcl, hr2, hg2⟩
    have HB3 : Hid (Below w.heap.size w w2) := HB2.out.grown hg2 HB2.out.size (fun k hk => by cases hk; exact hb'.1)
    have HEN : Hid (EndOf M true g r (r ||| rulesG M.rs h)) := ⟨h, by rw [kinds_143] at hcl; exact hcl, rfl⟩
    have hlt2 : ∀ s, h s = true → s < S := fun s hs => hcl.lt HLT.out (fun y hy => by have := HM.out.2.2.2.1 y hy; omega) hs
    have HRU : Hid (∀ u, Below w2.heap.size w2 u → Calls Tryd.prog 34 #[.pointer (some ⟨Wb, 0, none⟩), .slice (some ⟨b', 0, none⟩) n cap] u fun e W' => e = .returned (.int .u32 (rulesG M.rs h : Nat)) ∧ Below u.heap.size u W') := fun u hu => HRUL.out u b' cap h (below_step HB3.out hu) (hr2.later hu) hlt2
    obtain ⟨d3, d4⟩ := HCELL.out w2 HB3.out
    obtain ⟨ρ, hρ⟩ : ∃ ρ, rulesG M.rs h = ρ := ⟨_, rfl⟩
    have hρl : ρ < 4294967296 := by rw [← hρ]; exact rulesG_lt HM.out.2.2.2.2
    rw [hρ] at HRU HEN
    have HOR : Hid (bits .or .u32 (r : Nat) (ρ : Nat) = ((r ||| ρ : Nat) : Int)) := u32_or_nat r ρ hr hρl
    clear hcl hr2 hg2 hlt2 hρ HS HRUL HR1 HB1 HB2
    go_upto_region 5 with fail
    go_region_with (go_at_call 34; refine (HRU.out _ ((Below.refl _ _).drew)).mono ?_; rintro e u ⟨rfl, hu⟩; have HU : Hid (Below w.heap.size w u) := below_step (HB3.out.trans (((Below.refl _ w2).drew).mono HB3.out.size)) hu; obtain ⟨d5, d6⟩ := HCELL.out u HU.out; clear hu)
    all_goals
      go_wp2
      go_ret
      exact ⟨r ||| ρ, ret_int HOR.out, HEN.out, HU.out⟩
end Go.Proofs.YtmjnobdlgbojoaaDoor

/- sim's Byte. -/
namespace Go.Proofs.YtmjnobdlgbojoaaDoor
open Go.RowKit Go.Shelf
attribute [local go_sem] Oper.semAt_some

/-- an edge that takes a byte leads there -/
def leads (b s : Nat) (y : Eg) : Bool := decide (y.k = 2) && y.s b && decide (y.t.toNat = s)
/-- where a byte leads from some states -/
def nx (es : List Eg) (b : Nat) (l : List Nat) : Oct.S := fun s => l.any fun q => (fromE es ((q : Nat) : Int)).any (leads b s)
def nxj (es : List Eg) (b : Nat) (l : List Nat) (ys : List Eg) : Oct.S := fun s => nx es b l s || ys.any (leads b s)
theorem nx_nil (es : List Eg) (b : Nat) : nx es b [] = Oct.none := by funext s; rfl
theorem nxj_nil (es : List Eg) (b : Nat) (l : List Nat) : nxj es b l [] = nx es b l := by funext s; simp [nxj]
theorem nxj_all (es : List Eg) (b : Nat) (l : List Nat) (q : Nat) : nxj es b l (fromE es ((q : Nat) : Int)) = nx es b (l ++ [q]) := by funext s; simp [nxj, nx]
theorem nxj_skip {es : List Eg} {b : Nat} {l : List Nat} {ys : List Eg} {y : Eg} (h : y.k ≠ 2 ∨ y.s b = false) : nxj es b l (ys ++ [y]) = nxj es b l ys := by
  funext s
  have : leads b s y = false := by
    unfold leads
    rcases h with h | h <;> simp [h]
  simp [nxj, this]
theorem nxj_add {es : List Eg} {b : Nat} {l : List Nat} {ys : List Eg} {y : Eg} (h : y.k = 2) (h2 : y.s b = true) : nxj es b l (ys ++ [y]) = Oct.ins (nxj es b l ys) y.t.toNat := by
  funext s
  have : leads b s y = decide (y.t.toNat = s) := by unfold leads; simp [h, h2]
  unfold Oct.ins nxj
  rw [List.any_append, Bool.eq_iff_iff]
  simp [this]
  constructor
  · rintro (h | h | h)
    · exact Or.inr (Or.inl h)
    · exact Or.inr (Or.inr h)
    · exact Or.inl h.symm
  · rintro (h | h | h)
    · exact Or.inr (Or.inr h.symm)
    · exact Or.inl h
    · exact Or.inr (Or.inl h)
theorem nx_next {es : List Eg} {b S : Nat} {g : Oct.S} (hg : ∀ s, g s = true → s < S) (hes : ∀ y ∈ es, 0 ≤ y.f) : Oct.ins (nx es b (Oct.els g S)) 0 = nextS es b g := by
  funext s
  unfold Oct.ins nextS nx
  rw [Bool.eq_iff_iff]
  simp only [Bool.or_eq_true, beq_iff_eq, decide_eq_true_eq, List.any_eq_true, leads, Bool.and_eq_true]
  constructor
  · rintro (h | ⟨q, hq, y, hy, ⟨h1, h2⟩, h3⟩)
    · exact Or.inl h
    · obtain ⟨hy1, hy2⟩ := mem_fromE.1 hy
      exact Or.inr ⟨y, hy1, ⟨⟨h1, by rw [hy2]; exact (Oct.mem_els.1 hq).2⟩, h2⟩, h3⟩
  · rintro (h | ⟨y, hy, ⟨⟨h1, h2⟩, h3⟩, h4⟩)
    · exact Or.inl h
    · exact Or.inr ⟨y.f.toNat, Oct.mem_els.2 ⟨hg _ h2, h2⟩, y, mem_fromE.2 ⟨hy, by have := hes y hy; omega⟩, ⟨h1, h3⟩, h4⟩
theorem nx_lt {es : List Eg} {b S : Nat} {l : List Nat} (he : ∀ y ∈ es, 0 ≤ y.t ∧ y.t < (S : Int)) {s : Nat} (h : nx es b l s = true) : s < S ∧ ∃ y ∈ es, y.t.toNat = s := by
  unfold nx at h
  simp only [List.any_eq_true, leads, Bool.and_eq_true, decide_eq_true_eq] at h
  obtain ⟨q, _, y, hy, _, h3⟩ := h
  have h4 := he y (mem_fromE.1 hy).1
  exact ⟨by omega, y, (mem_fromE.1 hy).1, h3⟩
/-- between two states: what Byte holds -/
structure Bs (H Q Wb b R n : Nat) (W : World) (cur : Oct.S) : Prop where
  b2 : Boxed W H 35 (.pointer (some ⟨Wb, 0, none⟩))
  b3 : Boxed W (H + 1) 5 (.int .u8 (b : Nat))
  b4 : Boxed W Q 66 (.slice (some ⟨R, 0, none⟩) n n)
  row : RowG W H R n n cur
theorem Bs.keep {H Q Wb b R n : Nat} {W W' : World} {cur : Oct.S} (h : Bs H Q Wb b R n W cur) {row : Option Nat} (hg : W.grownBy W' row) (h2 : some H ≠ row) (h3 : some (H + 1) ≠ row) (h4 : some Q ≠ row) (hR : some R ≠ row) : Bs H Q Wb b R n W' cur :=
  ⟨h.b2.kept hg h2, h.b3.kept hg h3, h.b4.kept hg h4, h.row.same (hg.block R h.row.lt.1 hR)⟩
theorem row_ne {W : World} {base R n c : Nat} {g : Oct.S} {row : Option Nat} (h : RowG W base R n c g) (hr : ∀ r, row = some r → ∃ o : Obj, W.heap[r]? = some o ∧ o.isCells = false) : some R ≠ row := by
  intro e
  obtain ⟨o, ho, hc⟩ := hr R e.symm
  obtain ⟨cc, z, hz⟩ := h.ty
  rw [hz] at ho
  cases ho
  simp [Obj.isCells] at hc
end Go.Proofs.YtmjnobdlgbojoaaDoor
