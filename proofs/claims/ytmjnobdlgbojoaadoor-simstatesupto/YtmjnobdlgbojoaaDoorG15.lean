/- SimStates: its walk. -/
import Derived.Test.YtmjnobdlgbojoaaDoorG14
namespace Go.Proofs.YtmjnobdlgbojoaaDoor
open Go.RowKit
attribute [local go_sem ↓] Go.wp_at_zero Go.wp_at_succ

def Tm (S : Nat) (M : Ma) : Ma := ⟨M.S, ted S M.es (2 * M.es.length), trs S M.rs S⟩
theorem right_turn {M : Ma} {S : Nat} (hM : Fits M S) (h : rightOf M = true) : rightOf (Tm S M) = true := by
  have hF := fits_turn hM (turned_of hM)
  unfold rightOf at h ⊢
  rw [Bool.and_eq_true, Bool.and_eq_true, decide_eq_true_eq, decide_eq_true_eq, List.all_eq_true] at h ⊢
  refine ⟨⟨by have := hF.2.1; have := hF.1; show (1 : Int) ≤ (Tm S M).S; simp only [Tm] at *; omega, ?_⟩, fun z hz => ?_⟩
  · have h1 := hF.2.2.1
    have h2 := hF.2.1
    simp only [Tm] at *
    omega
  · obtain ⟨y, hy, rfl⟩ := ((turned_of hM).e z).1 hz
    have h1 := h.2 y hy
    have hb := hM.2.2.2.1 y hy
    have b1 := mi_lt (S := S) (i := y.f.toNat) (by omega)
    have b2 := mi_lt (S := S) (i := y.t.toNat) (by omega)
    have hS := hM.2.1
    unfold okE at h1 ⊢
    simp only [turnE, Tm] at h1 ⊢
    simp at h1 ⊢
    obtain ⟨⟨⟨⟨⟨⟨a1, a2⟩, _⟩, _⟩, _⟩, _⟩, a7⟩ := h1
    exact ⟨⟨⟨⟨⟨⟨decide_eq_false (by omega), decide_eq_false (by omega)⟩, decide_eq_false (by omega)⟩, decide_eq_false (by omega)⟩, decide_eq_false (by omega)⟩, decide_eq_false (by omega)⟩, a7.imp (fun h => decide_eq_true h) id⟩
/-- while the turned machine is made -/
structure Mk1 (H A Z R S : Nat) (x : Nf) (w3 u : World) (k : Nat) (rs : List Nat) (es : List Eg) : Prop where
  nf : NFB u A x
  low : Below H w3 u
  z : ∃ ea c, NFB u Z ⟨(S : Nat), ea, k, c, some ⟨R, 0, none⟩, S, S⟩ ∧ RowE u H (.slice ea k c) es
  row : RowU u H (.slice (some ⟨R, 0, none⟩) S S) rs
  hz : H ≤ Z
theorem Mk1.later {H A Z R S : Nat} {x : Nf} {w3 u u' : World} {k : Nat} {rs : List Nat} {es : List Eg} (h : Mk1 H A Z R S x w3 u k rs es) (hb : Below u.heap.size u u') (hH : H ≤ w3.heap.size) : Mk1 H A Z R S x w3 u' k rs es := by
  obtain ⟨h1, h2, ⟨ea, c, h3, h4⟩, h5, h6⟩ := h
  exact ⟨h1.later hb, h2.trans (hb.mono (Nat.le_trans hH h2.size)), ⟨ea, c, h3.later hb, h4.later hb⟩, h5.later hb, h6⟩
theorem Mk1.rules {H A Z R S : Nat} {x : Nf} {w3 u : World} {k : Nat} {rs : List Nat} {es : List Eg} (h : Mk1 H A Z R S x w3 u k rs es) (hA : A < H) (i v : Nat) : Mk1 H A Z R S x w3 (u.setCell ⟨R, i, none⟩ (.int .u32 (v : Nat))) k (rs.set i v) es := by
  obtain ⟨h1, h2, ⟨ea, c, h3, h4⟩, h5, h6⟩ := h
  have hRt : TyB u 28 R := by obtain ⟨_, ht⟩ := h5.ty R rfl; exact ht
  have hRH : H ≤ R := (h5.ty R rfl).1
  have hk : ∀ k, k ≠ R → (u.setCell ⟨R, i, none⟩ (.int .u32 (v : Nat))).heap[k]? = u.heap[k]? := fun k hk => Below.heap_setCell u ⟨R, i, none⟩ _ k hk
  refine ⟨(hk A (by omega)).trans h1, h2.setCell (p := ⟨R, i, none⟩) hRH _, ⟨ea, c, (hk Z (fun e => by subst e; exact absurd (TyB.ne h3.ty hRt) (by decide))).trans h3, h4.keep (fun b _ _ ht => hk b (fun e => by subst e; exact absurd (TyB.ne ht hRt) (by decide)))⟩, h5.put i v, h6⟩
theorem mk1_push {H A Z R S j g cap : Nat} {x : Nf} {w3 u w9 : World} {rs : List Nat} {es : List Eg} {ta : Option Addr} {tc : Nat} {e : Eg} (hnf : NFB u A x) (hk : Below H w3 u) (hH : H ≤ w3.heap.size) (hnz : NFB u Z ⟨(S : Nat), ta, j, tc, some ⟨R, 0, none⟩, S, S⟩) (hru : RowU u H (.slice (some ⟨R, 0, none⟩) S S) rs) (hZ : H ≤ Z) (hA : A < H) (hre : RowE u H (.slice ta j tc) es) (hre9 : RowE w9 H (.slice (some ⟨g, 0, none⟩) (j + 1) cap) (es ++ [e])) (hg9 : u.grownBy w9 (Value.slice ta j tc).ownBlock) : Mk1 H A Z R S x w3 (w9.setCell ⟨Z, 1, none⟩ (.slice (some ⟨g, 0, none⟩) (j + 1) cap)) (j + 1) rs (es ++ [e]) := by
  have hV : ∀ k, (Value.slice ta j tc).ownBlock = some k → H ≤ k ∧ TyB u 34 k := fun k h => hre.ty k h
  have hsame : ∀ k, k < u.heap.size → ¬ TyB u 34 k → w9.heap[k]? = u.heap[k]? := fun k hl ht => hg9.block k hl (fun e => ht (hV k e.symm).2)
  have hZe : ¬ TyB u 34 Z := fun h => absurd (TyB.ne h hnz.ty) (by decide)
  have hnz9 : NFB w9 Z ⟨(S : Nat), ta, j, tc, some ⟨R, 0, none⟩, S, S⟩ := (hsame Z hnz.lt hZe).trans hnz
  have hset : ∀ k, k ≠ Z → (w9.setCell ⟨Z, 1, none⟩ (.slice (some ⟨g, 0, none⟩) (j + 1) cap)).heap[k]? = w9.heap[k]? := fun k hk => Below.heap_setCell w9 ⟨Z, 1, none⟩ _ k hk
  refine ⟨?_, ?_, ⟨some ⟨g, 0, none⟩, cap, ?_, ?_⟩, ?_, hZ⟩
  · exact (hset A (by omega)).trans ((hsame A hnf.lt (fun h => absurd (TyB.ne h hnf.ty) (by decide))).trans hnf)
  · exact (hk.grown hg9 (Nat.le_trans hH hk.size) (fun k e => (hV k e).1)).setCell (p := ⟨Z, 1, none⟩) hZ _
  · unfold NFB
    rw [heap_set hnz9]
    rfl
  · exact hre9.keep (fun b _ _ ht => hset b (fun e => by subst e; exact absurd (TyB.ne ht hnz9.ty) (by decide)))
  · have h1 : RowU w9 H (.slice (some ⟨R, 0, none⟩) S S) rs := hru.keep (fun b _ hl ht => hsame b hl (fun h => absurd (TyB.ne h ht) (by decide)))
    exact h1.keep (fun b _ _ ht => hset b (fun e => by subst e; exact absurd (TyB.ne ht hnz9.ty) (by decide)))
/-- what is carried through the line -/
structure Ln (A S : Nat) (x : Nf) (b1 b2 W1 W2 : Nat) (M : Ma) (w u : World) (l : List Nat) (g : Oct.S) (r : Nat) (bg : Bool) : Prop where
  low : Below w.heap.size w u
  nf : NFB u A x
  m : Mom M l g r
  k1 : WkAt b1 u W1 M S g r bg
  k2 : WkAt b2 u W2 (Tm S M) S (tr S g) r bg
theorem Ln.later {A S : Nat} {x : Nf} {b1 b2 W1 W2 : Nat} {M : Ma} {w u u' : World} {l : List Nat} {g : Oct.S} {r : Nat} {bg : Bool} (h : Ln A S x b1 b2 W1 W2 M w u l g r bg) (hb : Below u.heap.size u u') : Ln A S x b1 b2 W1 W2 M w u' l g r bg :=
  ⟨below_step h.low hb, h.nf.later hb, h.m, h.k1.later hb, h.k2.later hb⟩
theorem and_of_or {a b : Nat} (ha : a < 4294967296) (hb : b < 4294967296) : bits .and .u32 ((a ||| b : Nat) : Int) (a : Nat) = (a : Nat) := by
  rw [u32_and_nat _ _ (or_lt32 ha hb) ha]
  congr 1
  apply Nat.eq_of_testBit_eq
  intro k
  rw [Nat.testBit_and, Nat.testBit_or]
  cases a.testBit k <;> simp
theorem Mom.grows {M : Ma} {l : List Nat} {g : Oct.S} {r b : Nat} {g2 : Oct.S} {r2 : Nat} (h : Mom M l g r) (h2 : Mom M (l ++ [b]) g2 r2) : ∃ q, r2 = r ||| q := by
  generalize hl : l ++ [b] = l2 at h2
  cases h2 with
  | beg _ _ => simp at hl
  | byte l' g' r' b' _ hm' hc' =>
    obtain ⟨e1, e2⟩ := List.append_inj' hl rfl
    subst e1
    obtain ⟨e3, e4⟩ := h.uniq hm'
    subst e4
    exact ⟨_, rfl⟩
set_option maxRecDepth 20000 in
set_option maxHeartbeats 16000000 in
theorem simStates_any (M : Ma) (x : Nf) (s : ByteArray) (w : World) (hs : s.size ≤ maxLen) (hx : MaAt (fun _ => True) w M x) (he : M.es.length ≤ 1048576) (hr : M.rs.length ≤ 1048576) (h32 : ∀ z ∈ M.rs, z < 4294967296) (hT : Tab w) : Calls Tryd.prog 3 #[x.val, .string s] w fun e w' => e = .returned (.bool true) ∧ Below w.heap.size w w' := by
  unfold maxLen at hs
  have kk : Below w.heap.size w (w.alloc (.cells #[.int .i64 x.S, .slice x.ea x.en x.ec, .slice x.ra x.rn x.rc] 25)) := (Below.refl _ _).alloc (Nat.le_refl _) _
  have HNX : Hid (NFB (w.alloc (.cells #[.int .i64 x.S, .slice x.ea x.en x.ec, .slice x.ra x.rn x.rc] 25)) w.heap.size x) := nfb_new w x
  have HB : Hid (Below w.heap.size w (w.alloc (.cells #[.int .i64 x.S, .slice x.ea x.en x.ec, .slice x.ra x.rn x.rc] 25))) := kk
  have HMX : Hid (MaAt (fun _ => True) (w.alloc (.cells #[.int .i64 x.S, .slice x.ea x.en x.ec, .slice x.ra x.rn x.rc] 25)) M x) := hx.later kk
  have HFX : Hid (Calls Tryd.prog 5 #[] (w.alloc (.cells #[.int .i64 x.S, .slice x.ea x.en x.ec, .slice x.ra x.rn x.rc] 25)) _) := fixed_any _ (hT.later kk)
  obtain ⟨w1, hw1⟩ : ∃ w1, w.alloc (.cells #[.int .i64 x.S, .slice x.ea x.en x.ec, .slice x.ra x.rn x.rc] 25) = w1 := ⟨_, rfl⟩
  rw [hw1] at HNX HB HMX HFX
  obtain ⟨A, hA⟩ : ∃ A, w.heap.size = A := ⟨_, rfl⟩
  rw [hA] at HNX
  have HW1 : Hid (w.alloc (.cells #[.int .i64 x.S, .slice x.ea x.en x.ec, .slice x.ra x.rn x.rc] 25) = w1) := hw1
  have HAA : Hid (w.heap.size = A) := hA
  have HT : Hid (Tab w) := hT
  have H32 : Hid (∀ z ∈ M.rs, z < 4294967296) := h32
  clear kk hx hw1 hA hT h32
  obtain ⟨xS, xa, en, xc, xra, xrn, xrc⟩ := x
  unfold Nf.val
  simp only at HW1 ⊢
  go_enter Tryd.func3, Tryd.ntmps3
  go_upto_region 1 with fail
  rw [HW1.out, HAA.out]
  clear HW1
  go_wp2_with fail
  refine HFX.out.mono ?_
  rintro e w2 ⟨rfl, k2⟩
  have HB2 : Hid (Below w.heap.size w w2) := below_step HB.out k2
  have HMX2 : Hid (MaAt (fun _ => True) w2 M ⟨xS, xa, en, xc, xra, xrn, xrc⟩) := HMX.out.later k2
  have HNX2 : Hid (NFB w2 A ⟨xS, xa, en, xc, xra, xrn, xrc⟩) := HNX.out.later k2
  have HRT : Hid (Calls Tryd.prog 6 #[.agg #[.int .i64 xS, .slice xa en xc, .slice xra xrn xrc]] w2 _) := pright_any M ⟨xS, xa, en, xc, xra, xrn, xrc⟩ w2 HMX2.out (by omega) (by omega)
  obtain ⟨b0, b1, b2⟩ := HNX2.out.cells
  simp only at b0 b1 b2
  clear k2 HFX HMX HNX HB
  go_wp2_with fail
  refine HRT.out.mono ?_
  rintro e w3 ⟨rfl, k3⟩
  have HB3 : Hid (Below w.heap.size w w3) := below_step HB2.out k3
  have HMX3 : Hid (MaAt (fun _ => True) w3 M ⟨xS, xa, en, xc, xra, xrn, xrc⟩) := HMX2.out.later k3
  have HNX3 : Hid (NFB w3 A ⟨xS, xa, en, xc, xra, xrn, xrc⟩) := HNX2.out.later k3
  clear k3 HRT HMX2 HNX2 HB2 b0 b1 b2
  obtain ⟨b0, b1, b2⟩ := HNX3.out.cells
  simp only at b0 b1 b2
  cases hok : rightOf M with
  | false =>
    clear hok
    go_wp2
    go_ret
    exact ⟨rfl, HB3.out⟩
  | true =>
  have HOK : Hid (rightOf M = true) := hok
  have HF : Hid (Fits M M.rs.length) := fits_of hok H32.out
  obtain ⟨S, hS⟩ : ∃ S, S = M.rs.length := ⟨_, rfl⟩
  rw [← hS] at HF
  have HSR : Hid (S = M.rs.length) := hS
  obtain ⟨q1, q2, q3, q4, q5⟩ := HMX3.out
  simp only at q1 q2 q3 q4 q5
  have hrn : xrn = S := by rw [q3, hS]
  have hSS : xS = (S : Nat) := by rw [q1]; exact HF.out.2.1
  subst hrn hSS
  have hS1 : 1 ≤ xrn := HF.out.1
  have HE3 : Hid (EAt (fun _ => True) w3 xa M.es) := q4
  have HU3 : Hid (UAt (fun _ => True) w3 xra M.rs) := q5
  have HLE : Hid (M.es.length = en) := q2.symm
  rw [HLE.out] at he
  rw [← hS] at hr
  clear hok q1 q2 q3 q4 q5 hS
  by_cases h400 : 400 < xrn
  · have h400' : (400 : Int) < (xrn : Int) := by omega
    go_wp2
    go_ret
    exact ⟨rfl, HB3.out⟩
  have h400' : ¬ (400 : Int) < (xrn : Int) := by omega
  have h400d : decide ((400 : Int) < (xrn : Int)) = false := by simp; omega
  go_upto_region 5 with fail
  obtain ⟨t40, ht40⟩ : ∃ t : Bool, t = decide (40 < s.size) := ⟨_, rfl⟩
  have HT40 : Hid (t40 = decide (40 < s.size)) := ht40
  clear ht40
  go_cut [31] (fun v wx => v = .bool t40 ∧ wx = w3)
  case first =>
    by_cases h40 : 40 < s.size
    · have h40' : (40 : Int) < (s.size : Int) := by omega
      have hd : decide (40 < s.size) = true := decide_eq_true h40
      have hv : t40 = true := HT40.out.trans hd
      clear h40
      go_wp2_with fail
      go_meet
      case rel => exact ⟨by rw [hv], rfl⟩
    · have h40' : ¬ (40 : Int) < (s.size : Int) := by omega
      have hd : decide (40 < s.size) = false := decide_eq_false h40
      have hv : t40 = false := HT40.out.trans hd
      clear h40
      go_wp2_with fail
      go_meet
      case rel => exact ⟨by rw [hv], rfl⟩
  case rest =>
  obtain ⟨rfl, rfl⟩ := hcut
  go_upto_if 31 with fail
  go_cut [1] (fun v wx => ∃ s2 : ByteArray, v = .string s2 ∧ s2.size ≤ 40 ∧ wx = wc)
  case first =>
    cases t40 with
    | true =>
      have h40 : 40 < s.size := of_decide_eq_true HT40.out.symm
      have h40' : (40 : Int) < (s.size : Int) := by omega
      have h40e : (40 : Int) ≤ (s.size : Int) := by omega
      go_wp2_with fail
      go_meet
      case rel => exact ⟨_, rfl, by simp; omega, rfl⟩
    | false =>
      have h40 : ¬ 40 < s.size := of_decide_eq_false HT40.out.symm
      go_wp2_with fail
      go_meet
      case rel => exact ⟨s, rfl, by omega, rfl⟩
  case rest =>
  obtain ⟨s2, rfl, hs2, rfl⟩ := hcut
  clear hs HT40
  have hAl : A < wc.heap.size := HNX3.out.lt
  have HWL : Hid (w.heap.size ≤ wc.heap.size) := HB3.out.size
  go_upto_region 7 with fail
  refine st7 (A := A) (S := xrn) rfl rfl b0 (by omega) ?_
  rintro a1 w4 Z R hfr h5 k4 hZ hnz hru
  rw [hfr.lit rfl, h5]
  have HM0 : Hid (Mk1 wc.heap.size A Z R xrn ⟨(xrn : Nat), xa, en, xc, xra, xrn, xrc⟩ wc w4 0 (trs xrn M.rs 0) (ted xrn M.es 0)) := ⟨HNX3.out.later k4, k4, ⟨none, 0, hnz, rowE_nil _ _⟩, hru, hZ⟩
  clear hnz hru k4 h5 b0 b1 b2
  obtain ⟨v34, e34⟩ : ∃ v, v = T a1 34 := ⟨_, rfl⟩
  obtain ⟨v35, e35⟩ : ∃ v, v = T a1 35 := ⟨_, rfl⟩
  obtain ⟨v36, e36⟩ : ∃ v, v = T a1 36 := ⟨_, rfl⟩
  obtain ⟨v37, e37⟩ : ∃ v, v = T a1 37 := ⟨_, rfl⟩
  obtain ⟨v38, e38⟩ : ∃ v, v = T a1 38 := ⟨_, rfl⟩
  obtain ⟨v39, e39⟩ : ∃ v, v = T a1 39 := ⟨_, rfl⟩
  rw [← e34, ← e35, ← e36, ← e37, ← e38, ← e39]
  clear e34 e35 e36 e37 e38 e39
  clear hfr
  simp only [Act.put]
  go_wp2_with fail
  go_loopw [6] (fun v u => ∃ i : Nat, v = .int .i64 (i : Nat) ∧ i ≤ xrn ∧ Hid (Mk1 wc.heap.size A Z R xrn ⟨(xrn : Nat), xa, en, xc, xra, xrn, xrc⟩ wc u 0 (trs xrn M.rs i) (ted xrn M.es 0))) (fun v _ => xrn - (intOf v).toNat)
  case atStart => exact ⟨0, rfl, Nat.zero_le _, HM0⟩
  case round =>
    clear HM0
    obtain ⟨i, rfl, hin, HJ⟩ := hrel
    obtain ⟨b0, b1, b2⟩ := HJ.out.nf.cells
    simp only at b0 b1 b2
    by_cases hlt : i < xrn
    · have hlt' : (i : Int) < (xrn : Int) := by omega
      obtain ⟨y, hy⟩ : ∃ y, M.rs[i]? = some y := ⟨_, List.getElem?_eq_getElem (by rw [← HSR.out]; exact hlt)⟩
      obtain ⟨rb, off, rfl, cy⟩ := (HU3.out.keep (Y := fun _ => True) (w' := wr) (fun _ h _ => h) (fun b _ hl => HJ.out.low.block b hl)).nth hy
      obtain ⟨ea, ec, hnz, hre⟩ := HJ.out.z
      obtain ⟨z0, z1, z2⟩ := hnz.cells
      simp only at z2
      have hmil := mi_lt hlt
      obtain ⟨yo, hyo⟩ : ∃ yo, (trs xrn M.rs i)[mi xrn i]? = some yo := ⟨_, List.getElem?_eq_getElem (by rw [trs_len]; exact hmil)⟩
      obtain ⟨co, fo⟩ := HJ.out.row.cell hyo
      have HTR : Hid (trs xrn M.rs (i + 1) = (trs xrn M.rs i).set (mi xrn i) y) := by show _ = _; rw [trs, hy]; rfl
      clear hnz hre z0 z1 hy hyo
      go_upto_region 11 with fail
      refine st11 (A := A) (Z := Z) (R := R) (S := xrn) (i := i) (x := y) rfl rfl rfl rfl b0 b2 z2 cy hlt (by omega) ⟨_, co⟩ fo ?_
      rintro a1 u hfr hu
      rw [hfr.lit rfl]
      have HJ2 : Hid (Mk1 wc.heap.size A Z R xrn ⟨(xrn : Nat), xa, en, xc, some ⟨rb, off, none⟩, xrn, xrc⟩ wc (u.setCell ⟨R, mi xrn i, none⟩ (.int .u32 (y : Nat))) 0 (trs xrn M.rs (i + 1)) (ted xrn M.es 0)) := by
        rw [HTR.out]
        exact (HJ.out.later hu (Nat.le_refl _)).rules hAl _ _
      clear hu b0 b1 b2 z2 cy co fo HJ
      obtain ⟨v46, e46⟩ : ∃ v, v = T a1 46 := ⟨_, rfl⟩
      obtain ⟨v47, e47⟩ : ∃ v, v = T a1 47 := ⟨_, rfl⟩
      obtain ⟨v48, e48⟩ : ∃ v, v = T a1 48 := ⟨_, rfl⟩
      obtain ⟨v49, e49⟩ : ∃ v, v = T a1 49 := ⟨_, rfl⟩
      obtain ⟨v50, e50⟩ : ∃ v, v = T a1 50 := ⟨_, rfl⟩
      obtain ⟨v51, e51⟩ : ∃ v, v = T a1 51 := ⟨_, rfl⟩
      obtain ⟨v52, e52⟩ : ∃ v, v = T a1 52 := ⟨_, rfl⟩
      obtain ⟨v53, e53⟩ : ∃ v, v = T a1 53 := ⟨_, rfl⟩
      obtain ⟨v54, e54⟩ : ∃ v, v = T a1 54 := ⟨_, rfl⟩
      obtain ⟨v55, e55⟩ : ∃ v, v = T a1 55 := ⟨_, rfl⟩
      obtain ⟨v56, e56⟩ : ∃ v, v = T a1 56 := ⟨_, rfl⟩
      obtain ⟨v57, e57⟩ : ∃ v, v = T a1 57 := ⟨_, rfl⟩
      rw [← e46, ← e47, ← e48, ← e49, ← e50, ← e51, ← e52, ← e53, ← e54, ← e55, ← e56, ← e57]
      clear e46 e47 e48 e49 e50 e51 e52 e53 e54 e55 e56 e57
      clear hfr
      simp only [Act.put]
      go_wp2
      go_roundw
      case rel => exact ⟨i + 1, by go_num, by omega, HJ2⟩
      case measure => simp [intOf]; omega
    · have hlt' : ¬ (i : Int) < (xrn : Int) := by omega
      have HJS : Hid (Mk1 wc.heap.size A Z R xrn ⟨(xrn : Nat), xa, en, xc, xra, xrn, xrc⟩ wc wr 0 (trs xrn M.rs xrn) (ted xrn M.es 0)) := by
        have h := HJ.out
        rw [show i = xrn by omega] at h
        exact h
      clear HJ
      go_wp2_with fail
      clear b0 b1 b2
      go_loopw [7] (fun v u => ∃ i : Nat, v = .int .i64 (i : Nat) ∧ i ≤ 2 * en ∧ Hid (Mk1 wc.heap.size A Z R xrn ⟨(xrn : Nat), xa, en, xc, xra, xrn, xrc⟩ wc u i (trs xrn M.rs xrn) (ted xrn M.es i))) (fun v _ => 2 * en - (intOf v).toNat)
      case atStart => exact ⟨0, rfl, Nat.zero_le _, HJS⟩
      case round =>
        clear HJS
        obtain ⟨j, rfl, hjn, HJ⟩ := hrel
        obtain ⟨b0, b1, b2⟩ := HJ.out.nf.cells
        simp only at b0 b1 b2
        by_cases hjl : j < 2 * en
        · have hjl' : (j : Int) < 2 * (en : Int) := by omega
          have hen0 : 0 < en := by omega
          have hmod : j % en < en := Nat.mod_lt _ hen0
          obtain ⟨y, hy⟩ : ∃ y, M.es[j % en]? = some y := ⟨_, List.getElem?_eq_getElem (by rw [HLE.out]; exact hmod)⟩
          obtain ⟨eb, off, rfl, e0, e1, e2, e3, e4, e5, e6⟩ := (HE3.out.keep (Y := fun _ => True) (w' := wr) (fun _ h _ => h) (fun b _ hl => HJ.out.low.block b hl)).nth hy
          have HTD : Hid (ted xrn M.es (j + 1) = ted xrn M.es j ++ [turnE xrn y]) := by show _ = _; rw [ted_succ, HLE.out, hy]; rfl
          have hbnd := HF.out.2.2.2.1 y (List.mem_of_getElem? hy)
          obtain ⟨ta, tc, hnz0, hre0⟩ := HJ.out.z
          have HNZ0 : Hid (NFB wr Z ⟨(xrn : Nat), ta, j, tc, some ⟨R, 0, none⟩, xrn, xrn⟩) := hnz0
          have HRE0 : Hid (RowE wr wc.heap.size (.slice ta j tc) (ted xrn M.es j)) := hre0
          clear hy hnz0 hre0
          go_upto_region 15 with fail
          refine st15 (A := A) (n := en) (c := xc) (eb := eb) (off := off) (i := j) (e := y) rfl rfl rfl b1 hen0 ⟨e0, e1, e2, e3, e4, e5, e6⟩ ?_
          rintro a1 u B hfr h8 hu hB heb
          rw [hfr.lit rfl, h8]
          have HJ1 : Hid (Mk1 wc.heap.size A Z R xrn ⟨(xrn : Nat), some ⟨eb, off, none⟩, en, xc, xra, xrn, xrc⟩ wc u j (trs xrn M.rs xrn) (ted xrn M.es j)) := HJ.out.later hu (Nat.le_refl _)
          have HEB : Hid (EB u B y) := heb
          have HBH : Hid (wr.heap.size ≤ B ∧ wc.heap.size ≤ wr.heap.size) := ⟨hB, HJ.out.low.size⟩
          have HNZ1 : Hid (NFB u Z ⟨(xrn : Nat), ta, j, tc, some ⟨R, 0, none⟩, xrn, xrn⟩) := HNZ0.out.later hu
          have HRE1 : Hid (RowE u wc.heap.size (.slice ta j tc) (ted xrn M.es j)) := HRE0.out.later hu
          have HVB : Hid (∀ k, (Value.slice ta j tc).ownBlock = some k → k ≠ B) := fun k hk e => by have := rowE_lt HRE0.out hk; omega
          clear HNZ0 HRE0
          clear h8 heb hu b0 b1 b2 e0 e1 e2 e3 e4 e5 e6 HJ hB
          obtain ⟨v66, e66⟩ : ∃ v, v = T a1 66 := ⟨_, rfl⟩
          obtain ⟨v67, e67⟩ : ∃ v, v = T a1 67 := ⟨_, rfl⟩
          obtain ⟨v68, e68⟩ : ∃ v, v = T a1 68 := ⟨_, rfl⟩
          obtain ⟨v69, e69⟩ : ∃ v, v = T a1 69 := ⟨_, rfl⟩
          obtain ⟨v70, e70⟩ : ∃ v, v = T a1 70 := ⟨_, rfl⟩
          obtain ⟨v71, e71⟩ : ∃ v, v = T a1 71 := ⟨_, rfl⟩
          obtain ⟨v72, e72⟩ : ∃ v, v = T a1 72 := ⟨_, rfl⟩
          obtain ⟨v73, e73⟩ : ∃ v, v = T a1 73 := ⟨_, rfl⟩
          obtain ⟨v74, e74⟩ : ∃ v, v = T a1 74 := ⟨_, rfl⟩
          rw [← e66, ← e67, ← e68, ← e69, ← e70, ← e71, ← e72, ← e73, ← e74]
          clear e66 e67 e68 e69 e70 e71 e72 e73 e74
          clear hfr
          simp only [Act.put]
          obtain ⟨yf, hyf⟩ : ∃ yf : Nat, y.f = (yf : Nat) := ⟨y.f.toNat, by omega⟩
          obtain ⟨yt, hyt⟩ : ∃ yt : Nat, y.t = (yt : Nat) := ⟨y.t.toNat, by omega⟩
          have HTE : Hid (turnE xrn y = ⟨y.k, (mi xrn yf : Nat), (mi xrn yt : Nat), y.s⟩) := by show _ = _; unfold turnE; rw [hyf, hyt]; rfl
          have hyfl : yf < xrn := by omega
          have hytl : yt < xrn := by omega
          obtain ⟨yk, _, _, ys⟩ := y
          simp only at hyf hyt
          subst hyf hyt
          simp only at HTE
          have hEA : B ≠ A := fun e => by subst e; exact absurd (TyB.ne HEB.out.ty HJ1.out.nf.ty) (by decide)
          have hEZ : B ≠ Z := fun e => by subst e; exact absurd (TyB.ne HEB.out.ty HNZ1.out.ty) (by decide)
          obtain ⟨d0, d1, d2, d3, d4, d5, d6⟩ := HEB.out.cells
          simp only at d0 d1 d2 d3 d4 d5 d6
          have f1 : u.frozen? ⟨B, 1, none⟩ = false := by simp [World.frozen?, show u.heap[B]? = _ from HEB.out]
          obtain ⟨b0, b1, b2⟩ := HJ1.out.nf.cells
          simp only at b0 b1 b2
          -- From
          obtain ⟨u1, hu1⟩ : ∃ u1, u.setCell ⟨B, 1, none⟩ (.int .i64 (mi xrn yf : Nat)) = u1 := ⟨_, rfl⟩
          have heb1 : u1.heap[B]? = some (.cells #[.int .i64 yk, .int .i64 (mi xrn yf : Nat), .int .i64 (yt : Nat), .int .u64 (Oct.word ys 0 : Nat), .int .u64 (Oct.word ys 1 : Nat), .int .u64 (Oct.word ys 2 : Nat), .int .u64 (Oct.word ys 3 : Nat)] 34 (0, 0)) := by rw [← hu1, heap_set HEB.out]; rfl
          have hold1 : ∀ k, k ≠ B → u1.heap[k]? = u.heap[k]? := fun k hk => by rw [← hu1]; exact Below.heap_setCell u ⟨B, 1, none⟩ _ k hk
          have g0 : u1.cell? ⟨A, 0, none⟩ = some (.int .i64 (xrn : Nat)) := (World.cell?_of_block (a := ⟨A, 0, none⟩) (hold1 A (fun e => hEA e.symm))).trans b0
          have g2 : u1.cell? ⟨B, 2, none⟩ = some (.int .i64 (yt : Nat)) := (cell_of_row _ _ _ _ _ _ heb1).trans rfl
          have f2 : u1.frozen? ⟨B, 2, none⟩ = false := by simp [World.frozen?, heb1]
          -- To
          obtain ⟨u2, hu2⟩ : ∃ u2, u1.setCell ⟨B, 2, none⟩ (.int .i64 (mi xrn yt : Nat)) = u2 := ⟨_, rfl⟩
          have heb2 : u2.heap[B]? = some (.cells #[.int .i64 yk, .int .i64 (mi xrn yf : Nat), .int .i64 (mi xrn yt : Nat), .int .u64 (Oct.word ys 0 : Nat), .int .u64 (Oct.word ys 1 : Nat), .int .u64 (Oct.word ys 2 : Nat), .int .u64 (Oct.word ys 3 : Nat)] 34 (0, 0)) := by rw [← hu2, heap_set heb1]; rfl
          have hold2 : ∀ k, k ≠ B → u2.heap[k]? = u.heap[k]? := fun k hk => by rw [← hu2]; exact (Below.heap_setCell u1 ⟨B, 2, none⟩ _ k hk).trans (hold1 k hk)
          have hBlo : wc.heap.size ≤ B := by have := HBH.out; omega
          have k2 : Below wc.heap.size wc u2 := by rw [← hu2, ← hu1]; exact (HJ1.out.low.setCell (p := ⟨B, 1, none⟩) hBlo _).setCell (p := ⟨B, 2, none⟩) hBlo _
          have hnz2 : NFB u2 Z ⟨(xrn : Nat), ta, j, tc, some ⟨R, 0, none⟩, xrn, xrn⟩ := (hold2 Z (fun e => hEZ e.symm)).trans HNZ1.out
          have hre2 : RowE u2 wc.heap.size (.slice ta j tc) (ted xrn M.es j) := rowE_sep HRE1.out (fun k hk _ => hold2 k (HVB.out k hk))
          have hru2 : RowU u2 wc.heap.size (.slice (some ⟨R, 0, none⟩) xrn xrn) (trs xrn M.rs xrn) := HJ1.out.row.keep (fun k _ _ ht => hold2 k (fun e => by subst e; exact absurd (TyB.ne ht HEB.out.ty) (by decide)))
          have hnf2 : NFB u2 A ⟨(xrn : Nat), some ⟨eb, off, none⟩, en, xc, xra, xrn, xrc⟩ := (hold2 A (fun e => hEA e.symm)).trans HJ1.out.nf
          obtain ⟨z0, z1, z2⟩ := hnz2.cells
          simp only at z0 z1 z2
          have c0 : u2.cell? ⟨B, 0, none⟩ = some (.int .i64 yk) := (cell_of_row _ _ _ _ _ _ heb2).trans rfl
          have c1 : u2.cell? ⟨B, 1, none⟩ = some (.int .i64 (mi xrn yf : Nat)) := (cell_of_row _ _ _ _ _ _ heb2).trans rfl
          have c2 : u2.cell? ⟨B, 2, none⟩ = some (.int .i64 (mi xrn yt : Nat)) := (cell_of_row _ _ _ _ _ _ heb2).trans rfl
          have c3 : u2.cell? ⟨B, 3, none⟩ = some (.int .u64 (Oct.word ys 0 : Nat)) := (cell_of_row _ _ _ _ _ _ heb2).trans rfl
          have c4 : u2.cell? ⟨B, 4, none⟩ = some (.int .u64 (Oct.word ys 1 : Nat)) := (cell_of_row _ _ _ _ _ _ heb2).trans rfl
          have c5 : u2.cell? ⟨B, 5, none⟩ = some (.int .u64 (Oct.word ys 2 : Nat)) := (cell_of_row _ _ _ _ _ _ heb2).trans rfl
          have c6 : u2.cell? ⟨B, 6, none⟩ = some (.int .u64 (Oct.word ys 3 : Nat)) := (cell_of_row _ _ _ _ _ _ heb2).trans rfl
          have kk : Below u2.heap.size u2 (u2.alloc (.cells #[.int .i64 yk, .int .i64 (mi xrn yf : Nat), .int .i64 (mi xrn yt : Nat), .int .u64 (Oct.word ys 0 : Nat), .int .u64 (Oct.word ys 1 : Nat), .int .u64 (Oct.word ys 2 : Nat), .int .u64 (Oct.word ys 3 : Nat)] 34)) := (Below.refl _ _).alloc (Nat.le_refl _) _
          have hnew : ∀ q v, (turnE xrn ⟨yk, (yf : Int), (yt : Int), ys⟩).cells[q]? = some v → (u2.alloc (.cells #[.int .i64 yk, .int .i64 (mi xrn yf : Nat), .int .i64 (mi xrn yt : Nat), .int .u64 (Oct.word ys 0 : Nat), .int .u64 (Oct.word ys 1 : Nat), .int .u64 (Oct.word ys 2 : Nat), .int .u64 (Oct.word ys 3 : Nat)] 34)).cell? ((⟨u2.heap.size, 0, none⟩ : Addr).add q) = some v := fun q v hq => by
            have h := World.news_of_block (heap_alloc_new u2 (.cells #[.int .i64 yk, .int .i64 (mi xrn yf : Nat), .int .i64 (mi xrn yt : Nat), .int .u64 (Oct.word ys 0 : Nat), .int .u64 (Oct.word ys 1 : Nat), .int .u64 (Oct.word ys 2 : Nat), .int .u64 (Oct.word ys 3 : Nat)] 34)) q v
            rw [HTE.out] at hq
            exact h hq
          have HNEW : Hid (∀ q v, (turnE xrn ⟨yk, (yf : Int), (yt : Int), ys⟩).cells[q]? = some v → (u2.alloc (.cells #[.int .i64 yk, .int .i64 (mi xrn yf : Nat), .int .i64 (mi xrn yt : Nat), .int .u64 (Oct.word ys 0 : Nat), .int .u64 (Oct.word ys 1 : Nat), .int .u64 (Oct.word ys 2 : Nat), .int .u64 (Oct.word ys 3 : Nat)] 34)).cell? ((⟨u2.heap.size, 0, none⟩ : Addr).add q) = some v) := hnew
          have HRE3 : Hid (RowE (u2.alloc (.cells #[.int .i64 yk, .int .i64 (mi xrn yf : Nat), .int .i64 (mi xrn yt : Nat), .int .u64 (Oct.word ys 0 : Nat), .int .u64 (Oct.word ys 1 : Nat), .int .u64 (Oct.word ys 2 : Nat), .int .u64 (Oct.word ys 3 : Nat)] 34)) wc.heap.size (.slice ta j tc) (ted xrn M.es j)) := hre2.later kk
          have HNZ3 : Hid (NFB (u2.alloc (.cells #[.int .i64 yk, .int .i64 (mi xrn yf : Nat), .int .i64 (mi xrn yt : Nat), .int .u64 (Oct.word ys 0 : Nat), .int .u64 (Oct.word ys 1 : Nat), .int .u64 (Oct.word ys 2 : Nat), .int .u64 (Oct.word ys 3 : Nat)] 34)) Z ⟨(xrn : Nat), ta, j, tc, some ⟨R, 0, none⟩, xrn, xrn⟩) := hnz2.later kk
          have HNF3 : Hid (NFB (u2.alloc (.cells #[.int .i64 yk, .int .i64 (mi xrn yf : Nat), .int .i64 (mi xrn yt : Nat), .int .u64 (Oct.word ys 0 : Nat), .int .u64 (Oct.word ys 1 : Nat), .int .u64 (Oct.word ys 2 : Nat), .int .u64 (Oct.word ys 3 : Nat)] 34)) A ⟨(xrn : Nat), some ⟨eb, off, none⟩, en, xc, xra, xrn, xrc⟩) := hnf2.later kk
          have HRU3 : Hid (RowU (u2.alloc (.cells #[.int .i64 yk, .int .i64 (mi xrn yf : Nat), .int .i64 (mi xrn yt : Nat), .int .u64 (Oct.word ys 0 : Nat), .int .u64 (Oct.word ys 1 : Nat), .int .u64 (Oct.word ys 2 : Nat), .int .u64 (Oct.word ys 3 : Nat)] 34)) wc.heap.size (.slice (some ⟨R, 0, none⟩) xrn xrn) (trs xrn M.rs xrn)) := hru2.later kk
          have HK3 : Hid (Below wc.heap.size wc (u2.alloc (.cells #[.int .i64 yk, .int .i64 (mi xrn yf : Nat), .int .i64 (mi xrn yt : Nat), .int .u64 (Oct.word ys 0 : Nat), .int .u64 (Oct.word ys 1 : Nat), .int .u64 (Oct.word ys 2 : Nat), .int .u64 (Oct.word ys 3 : Nat)] 34))) := k2.trans (kk.mono k2.size)
          have HTL : Hid ((ted xrn M.es j).length = j) := ted_len _ _ _
          have HZH : Hid (wc.heap.size ≤ Z) := HJ1.out.hz
          have HU1 : Hid (u.setCell ⟨B, 1, none⟩ (.int .i64 (mi xrn yf : Nat)) = u1) := hu1
          have HU2 : Hid (u1.setCell ⟨B, 2, none⟩ (.int .i64 (mi xrn yt : Nat)) = u2) := hu2
          clear hu1 hu2 hnew hnz2 hre2 hru2 hnf2 kk k2 hold1 hold2 heb1 heb2 HJ1 HEB HNZ1 HRE1 HVB d0 d2 d3 d4 d5 d6 b1 b2 z0 z2
          have HMF : Hid (Calls Tryd.prog 7 #[.int .i64 (yf : Nat), .int .i64 (xrn : Nat)] u _) := mirror_any xrn yf u (by omega) (by omega)
          have HMT : Hid (Calls Tryd.prog 7 #[.int .i64 (yt : Nat), .int .i64 (xrn : Nat)] u1 _) := mirror_any xrn yt u1 (by omega) (by omega)
          go_wp2_with fail
          refine HMF.out.mono ?_
          rintro r9 u9 ⟨rfl, rfl⟩
          clear HMF
          go_upto_region 17 with fail
          rw [HU1.out]
          clear HU1 d1 f1 b0
          go_wp2_with fail
          refine HMT.out.mono ?_
          rintro r9 u9' ⟨rfl, rfl⟩
          clear HMT
          go_upto_region 18 with fail
          rw [HU2.out]
          clear HU2 g0 g2 f2
          go_wp2_with (at_builtin; refine wpList_append_edge rfl _ _ rfl wc.heap.size j _ (ted xrn M.es j) rfl HTL.out HRE3.out ⟨u2.heap.size, 0, none⟩ 1 (turnE xrn ⟨yk, (yf : Int), (yt : Int), ys⟩) rfl HNEW.out (by omega) HK3.out.size ?_; intro ga ca w9 hre9 hg9; have hz9 : NFB w9 Z ⟨(xrn : Nat), ta, j, tc, some ⟨R, 0, none⟩, xrn, xrn⟩ := (hg9.block Z HNZ3.out.lt (fun e => absurd (TyB.ne HNZ3.out.ty ((HRE3.out.ty Z e.symm).2)) (by decide))).trans HNZ3.out; obtain ⟨_, y1, _⟩ := hz9.cells; simp only at y1; have y2 := hz9.frozen 1; have HM9 : Hid (Mk1 wc.heap.size A Z R xrn ⟨(xrn : Nat), some ⟨eb, off, none⟩, en, xc, xra, xrn, xrc⟩ wc (w9.setCell ⟨Z, 1, none⟩ (.slice (some ⟨ga, 0, none⟩) (j + 1) ca)) (j + 1) (trs xrn M.rs xrn) (ted xrn M.es (j + 1))) := (by rw [HTD.out]; exact mk1_push HNF3.out HK3.out (Nat.le_refl _) HNZ3.out HRU3.out HZH.out hAl HRE3.out hre9 hg9); clear hre9 hg9 hz9 HNEW HRE3)
          go_roundw
          case rel => exact ⟨j + 1, by go_num, by omega, HM9⟩
          case measure => simp [intOf]; omega
        · have hjl' : ¬ (j : Int) < 2 * (en : Int) := by omega
          have hj2 : j = 2 * en := by omega
          obtain ⟨ta, tc, hnz, hre⟩ := HJ.out.z
          rw [hj2] at hnz hre
          have hmT : MaAt (fun _ => True) wr (Tm xrn M) ⟨(xrn : Nat), ta, 2 * en, tc, some ⟨R, 0, none⟩, xrn, xrn⟩ := ⟨HF.out.2.1.symm, by show 2 * en = (ted xrn M.es (2 * M.es.length)).length; rw [ted_len, HLE.out], by show xrn = (trs xrn M.rs xrn).length; rw [trs_len], by show EAt _ _ _ (ted xrn M.es (2 * M.es.length)); rw [HLE.out]; exact hre.at.2.keep (fun _ _ _ => trivial) (fun _ _ _ => rfl), HJ.out.row.at.2.keep (fun _ _ _ => trivial) (fun _ _ _ => rfl)⟩
          have hmM : MaAt (fun _ => True) wr M ⟨(xrn : Nat), xa, en, xc, xra, xrn, xrc⟩ := ⟨HF.out.2.1.symm, HLE.out.symm, HSR.out, HE3.out.keep (fun _ h _ => h) (fun b _ hl => HJ.out.low.block b hl), HU3.out.keep (fun _ h _ => h) (fun b _ hl => HJ.out.low.block b hl)⟩
          have hbw : Below w.heap.size w wr := below_step HB3.out HJ.out.low
          have HFT : Hid (Fits (Tm xrn M) xrn) := fits_turn HF.out (turned_of HF.out)
          have HTU : Hid (Turned xrn M (Tm xrn M)) := turned_of HF.out
          have heT : (Tm xrn M).es.length ≤ 2513169434900 := by show (ted xrn M.es (2 * M.es.length)).length ≤ _; rw [ted_len, HLE.out]; omega
          have HET : Hid ((Tm xrn M).es.length ≤ 2513169434900) := heT
          have HRT : Hid ((Tm xrn M).rs.length = xrn) := HFT.out.2.2.1
          have HBG1 : Hid (Calls Tryd.prog 8 #[.agg #[.int .i64 (xrn : Nat), .slice xa en xc, .slice xra xrn xrc]] wr (BeginPost wr M)) := begin_any M ⟨(xrn : Nat), xa, en, xc, xra, xrn, xrc⟩ wr hmM (by rw [HLE.out]; omega) (by rw [← HSR.out]; omega) H32.out (HT.out.later hbw)
          have HMT : Hid (MaAt (fun _ => True) wr (Tm xrn M) ⟨(xrn : Nat), ta, 2 * en, tc, some ⟨R, 0, none⟩, xrn, xrn⟩) := hmT
          have HNZ : Hid (NFB wr Z ⟨(xrn : Nat), ta, 2 * en, tc, some ⟨R, 0, none⟩, xrn, xrn⟩) := hnz
          have HNA : Hid (NFB wr A ⟨(xrn : Nat), xa, en, xc, xra, xrn, xrc⟩) := HJ.out.nf
          have HBW : Hid (Below w.heap.size w wr) := hbw
          have HWS : Hid (w.heap.size ≤ wr.heap.size) := hbw.size
          clear HJ hnz hre hmT hmM hbw heT hj2
          go_wp2_with fail
          refine HBG1.out.mono ?_
          rintro e5 w5 ⟨k5, hp5⟩
          rcases hp5 with ⟨h, _⟩ | ⟨_, W1, g, r, rfl, hm5, hwk5⟩
          · exact absurd (h.symm.trans HOK.out) (by decide)
          rw [← HSR.out] at hwk5
          have HM5 : Hid (Mom M [] g r) := hm5
          have HWK5 : Hid (WkAt wr.heap.size w5 W1 M xrn g r false) := hwk5
          have HB5 : Hid (Below w.heap.size w w5) := below_step HBW.out k5
          have HNA5 : Hid (NFB w5 A ⟨(xrn : Nat), xa, en, xc, xra, xrn, xrc⟩) := HNA.out.later k5
          have hnz5 := HNZ.out.later k5
          have HBG2 : Hid (Calls Tryd.prog 8 #[.agg #[.int .i64 (xrn : Nat), .slice ta (2 * en) tc, .slice (some ⟨R, 0, none⟩) xrn xrn]] w5 (BeginPost w5 (Tm xrn M))) := begin_any (Tm xrn M) ⟨(xrn : Nat), ta, 2 * en, tc, some ⟨R, 0, none⟩, xrn, xrn⟩ w5 (HMT.out.later k5) HET.out (by rw [HRT.out]; omega) HFT.out.2.2.2.2 (HT.out.later HB5.out)
          obtain ⟨z0, z1, z2⟩ := hnz5.cells
          simp only at z0 z1 z2
          clear hm5 hwk5 k5 hnz5 HBG1 HMT HNZ HNA HBW b0 b1 b2
          go_wp2_with fail
          refine HBG2.out.mono ?_
          rintro e6 w6 ⟨k6, hp6⟩
          rcases hp6 with ⟨h, _⟩ | ⟨_, W2, g2, r2, rfl, hm6, hwk6⟩
          · exact absurd (h.symm.trans (right_turn HF.out HOK.out)) (by decide)
          obtain ⟨e7, e8⟩ := (mom_turn HF.out HTU.out HM5.out).uniq hm6
          subst e7 e8
          rw [HRT.out] at hwk6
          have HWW : Hid (W1 < w5.heap.size ∧ w5.heap.size ≤ W2 ∧ w.heap.size ≤ W1 ∧ w.heap.size ≤ W2 ∧ wr.heap.size ≠ 0 ∧ w5.heap.size ≠ 0) := ⟨HWK5.out.lt, hwk6.1, by have h1 := HWK5.out.1; have h4 := HWS.out; omega, by have h1 := hwk6.1; have h2 := HB5.out.size; omega, by have h1 := HT.out.pos; have h4 := HWS.out; omega, by have h1 := HT.out.pos; have h2 := HB5.out.size; omega⟩
          have HLN : Hid (Ln A xrn ⟨(xrn : Nat), xa, en, xc, xra, xrn, xrc⟩ wr.heap.size w5.heap.size W1 W2 M w w6 [] g r false) := ⟨below_step HB5.out k6, HNA5.out.later k6, HM5.out, HWK5.out.later k6, hwk6⟩
          clear hm6 hwk6 k6 HBG2 HM5 HWK5 HB5 HNA5 z0 z1 z2
          obtain ⟨B1, hB1⟩ : ∃ B1, B1 = wr.heap.size := ⟨_, rfl⟩
          obtain ⟨B2, hB2⟩ : ∃ B2, B2 = w5.heap.size := ⟨_, rfl⟩
          rw [← hB1, ← hB2] at HLN HWW
          clear hB1 hB2
          go_wp2_with fail
          go_loopw [14, 13] (fun i q u => ∃ j r0 : Nat, i = .int .i64 (j : Nat) ∧ q = .int .u32 (r0 : Nat) ∧ j ≤ s2.size + 1 ∧ Hid (Below w.heap.size w u) ∧ Hid (j ≤ s2.size → ∃ g r, Ln A xrn ⟨(xrn : Nat), xa, en, xc, xra, xrn, xrc⟩ B1 B2 W1 W2 M w u ((bts s2).take j) g r (decide (0 < j)) ∧ r0 < 4294967296 ∧ ∃ q, r = r0 ||| q)) (fun i _ _ => s2.size + 1 - (intOf i).toNat)
          case atStart => exact ⟨0, 0, rfl, rfl, by omega, HLN.out.low, fun _ => ⟨g, r, HLN.out, by decide, r, by rw [Nat.zero_or]⟩⟩
          case round =>
            clear HLN g r
            obtain ⟨j, r0, rfl, rfl, hjn, HBJ, HJ⟩ := hrel
            by_cases hjs : j ≤ s2.size
            · have hjs' : (j : Int) ≤ (s2.size : Int) := by omega
              obtain ⟨g, r, hln, hr0, q, hq⟩ := HJ.out hjs
              have HLN : Hid (Ln A xrn ⟨(xrn : Nat), xa, en, xc, xra, xrn, xrc⟩ B1 B2 W1 W2 M w wr ((bts s2).take j) g r (decide (0 < j))) := hln
              have hlt := hln.m.lt HF.out
              have hr32 := hln.m.r32 HF.out
              have hmT := mom_turn HF.out HTU.out hln.m
              have hltT := hmT.lt HFT.out
              have hcn := hln.m.cnt
              have hcnT := hmT.cnt
              obtain ⟨t, ht⟩ := els_zero HF.out.1 hln.m.zero
              have hetT := els_turn HF.out.1 ht
              have HCN : Hid ((∀ s, g s = true → s < xrn) ∧ (∀ s, tr xrn g s = true → s < xrn) ∧ (∀ s, g s = true → s = 0 ∨ ∃ y ∈ M.es, y.t.toNat = s) ∧ (∀ s, tr xrn g s = true → s = 0 ∨ ∃ y ∈ (Tm xrn M).es, y.t.toNat = s)) := ⟨hlt, hltT, hcn, hcnT⟩
              have HES : Hid (Oct.els g xrn = 0 :: t ∧ Oct.els (tr xrn g) xrn = 0 :: (t.map (mi xrn)).reverse) := ⟨ht, hetT⟩
              have hel1 : (Oct.els g xrn).length ≤ xrn := Oct.els_length _ _
              have hel2 : (Oct.els (tr xrn g) xrn).length ≤ xrn := Oct.els_length _ _
              have HQ : Hid (r = r0 ||| q ∧ r0 < 4294967296 ∧ q < 4294967296 ∧ r < 4294967296) := ⟨hq, hr0, by
                have h1 : q ≤ r0 ||| q := Nat.right_le_or
                omega, hr32⟩
              have HS1 : Hid (Calls Tryd.prog 9 #[.pointer (some ⟨W1, 0, none⟩)] wr _) := states_any W1 wr hln.k1 (HT.out.later hln.low) (by omega) hlt (by omega)
              clear hln hq hlt hmT hltT hcn hcnT ht hetT HJ hr32
              go_wp2_with fail
              refine HS1.out.mono ?_
              rintro e7 w7 ⟨V1, rfl, hst1, k7⟩
              rw [HES.out.1] at hst1
              obtain ⟨g1, c1, rfl, hg1, hc1⟩ := hst1.len (by simp)
              have HC1 : Hid (∀ (j x : Nat), (0 :: t)[j]? = some x → w7.cell? ⟨g1, j, none⟩ = some (.int .i64 (x : Nat))) := hc1
              have HL7 : Hid (Ln A xrn ⟨(xrn : Nat), xa, en, xc, xra, xrn, xrc⟩ B1 B2 W1 W2 M w w7 ((bts s2).take j) g r (decide (0 < j))) := HLN.out.later k7
              have HS2 : Hid (Calls Tryd.prog 9 #[.pointer (some ⟨W2, 0, none⟩)] w7 _) := states_any W2 w7 HL7.out.k2 (HT.out.later HL7.out.low) (by omega) HCN.out.2.1 (by omega)
              obtain ⟨m, hm⟩ : ∃ m, m = (0 :: t).length := ⟨_, rfl⟩
              rw [← hm]
              have HM : Hid (m = (0 :: t).length) := hm
              clear hst1 hc1 k7 HS1 HLN hg1 hm
              go_wp2_with fail
              refine HS2.out.mono ?_
              rintro e8 w8 ⟨V2, rfl, hst2, k8⟩
              rw [HES.out.2] at hst2
              obtain ⟨g2, c2, rfl, hg2, hc2⟩ := hst2.len (by simp)
              have HC2 : Hid (∀ (j x : Nat), (0 :: (t.map (mi xrn)).reverse)[j]? = some x → w8.cell? ⟨g2, j, none⟩ = some (.int .i64 (x : Nat))) := hc2
              have HC1' : Hid (∀ (j x : Nat), (0 :: t)[j]? = some x → w8.cell? ⟨g1, j, none⟩ = some (.int .i64 (x : Nat))) := fun j x hx => (World.cell?_of_block (a := ⟨g1, j, none⟩) (k8.block g1 (lt_of_cell (HC1.out j x hx)))).trans (HC1.out j x hx)
              have HL8 : Hid (Ln A xrn ⟨(xrn : Nat), xa, en, xc, xra, xrn, xrc⟩ B1 B2 W1 W2 M w w8 ((bts s2).take j) g r (decide (0 < j))) := HL7.out.later k8
              have hlen2 : (0 :: (t.map (mi xrn)).reverse).length = m := by rw [HM.out]; simp
              rw [hlen2]
              have hm1 : 1 ≤ m := by rw [HM.out]; simp
              have hmx : m ≤ xrn := by rw [HM.out, ← HES.out.1]; exact hel1
              clear hst2 hc2 k8 HS2 HL7 HC1 hg2 hlen2
              obtain ⟨p, hp⟩ : ∃ p, p = t.length := ⟨_, rfl⟩
              have hmp : m = p + 1 := by rw [HM.out, hp]; rfl
              obtain ⟨z, hz⟩ : ∃ z, (0 :: t)[p]? = some z := ⟨_, List.getElem?_eq_getElem (by rw [hp]; simp)⟩
              have hzS : z < xrn := by
                have h1 : z ∈ Oct.els g xrn := by rw [HES.out.1]; exact List.mem_of_getElem? hz
                exact (Oct.mem_els.1 h1).1
              have y0 : w8.cell? ⟨g1, 0, none⟩ = some (.int .i64 0) := HC1'.out 0 0 rfl
              have yz : w8.cell? ⟨g1, p, none⟩ = some (.int .i64 (z : Nat)) := HC1'.out p z hz
              obtain ⟨a0, a1', a2'⟩ := HL8.out.nf.cells
              simp only at a0 a1' a2'
              have i1 : (m : Int) - 1 = (p : Int) := by omega
              have i2 : (p : Int) < (m : Int) := by omega
              have i3 : (0 : Int) < (m : Int) := by omega
              have i4 : ((m : Int) == 0) = false := by simp; omega
              have i5 : decide ((m : Int) = 0) = false := by simp; omega
              have i6 : decide (m = 0) = false := by simp; omega
              have i7 : (m == 0) = false := by simp; omega
              have i8 : decide ((xrn : Int) ≤ (z : Int)) = false := by simp; omega
              have i9 : ¬ (xrn : Int) ≤ (z : Int) := by omega
              have i10 : ¬ m = 0 := by omega
              have i11 : 0 < m := by omega
              have i12 : IntKind.i64.wrap (p : Int) = (p : Int) := by rw [IntKind.wrap_i64]; omega
              have i13 : IntKind.i64.wrap ((m : Int) - 1) = (p : Int) := by rw [IntKind.wrap_i64]; omega
              clear hz hmp hp a1' a2'
              go_upto_region 29 with fail
              go_quiet (fail)
              have kq : Below w8.heap.size w8 (w8.drewN nq) := ⟨rfl, rfl, rfl, Nat.le_refl _, fun _ _ => rfl⟩
              have HL9 : Hid (Ln A xrn ⟨(xrn : Nat), xa, en, xc, xra, xrn, xrc⟩ B1 B2 W1 W2 M w (w8.drewN nq) ((bts s2).take j) g r (decide (0 < j))) := HL8.out.later kq
              have HC9 : Hid (∀ (j x : Nat), (0 :: t)[j]? = some x → (w8.drewN nq).cell? ⟨g1, j, none⟩ = some (.int .i64 (x : Nat))) := fun j x hx => HC1'.out j x hx
              have HD9 : Hid (∀ (j x : Nat), (0 :: (t.map (mi xrn)).reverse)[j]? = some x → (w8.drewN nq).cell? ⟨g2, j, none⟩ = some (.int .i64 (x : Nat))) := fun j x hx => HC2.out j x hx
              obtain ⟨w9, hw9⟩ : ∃ w9, w8.drewN nq = w9 := ⟨_, rfl⟩
              rw [hw9] at HL9 HC9 HD9 ⊢
              have i14 : ¬ xrn ≤ z := by omega
              have i15 : decide (xrn ≤ z) = false := by simp; omega
              clear hw9 kq HL8 HC1' HC2 y0 yz a0 i1 i2 i12 i13
              go_wp2_with fail
              clear i3 i4 i5 i6 i7 i8 i9 i14 i15 hzS
              go_loopw [17] (fun v u => ∃ i : Nat, v = .int .i64 (i : Nat) ∧ 1 ≤ i ∧ i ≤ m ∧ Hid (Below w9.heap.size w9 u)) (fun v _ => m - (intOf v).toNat)
              case atStart => exact ⟨1, rfl, Nat.le_refl _, hm1, Below.refl _ _⟩
              case round =>
                obtain ⟨i, rfl, hi1, him, HBI⟩ := hrel
                have HLI : Hid (Ln A xrn ⟨(xrn : Nat), xa, en, xc, xra, xrn, xrc⟩ B1 B2 W1 W2 M w wr ((bts s2).take j) g r (decide (0 < j))) := HL9.out.later HBI.out
                by_cases hil : i < m
                · obtain ⟨ip, hip⟩ : ∃ ip, i = ip + 1 := ⟨i - 1, by omega⟩
                  obtain ⟨qd, hqd⟩ : ∃ qd, m = i + qd := ⟨m - i, by omega⟩
                  have hlen : (0 :: t).length = m := HM.out.symm
                  obtain ⟨yi, hyi⟩ : ∃ y, (0 :: t)[i]? = some y := ⟨_, List.getElem?_eq_getElem (by omega)⟩
                  obtain ⟨yp, hyp⟩ : ∃ y, (0 :: t)[ip]? = some y := ⟨_, List.getElem?_eq_getElem (by omega)⟩
                  have hmem : yi < xrn := by
                    have h1 : yi ∈ Oct.els g xrn := by rw [HES.out.1]; exact List.mem_of_getElem? hyi
                    exact (Oct.mem_els.1 h1).1
                  have hsort : yp < yi := by
                    have h1 := Oct.els_sorted g xrn
                    rw [HES.out.1] at h1
                    have h2 := List.pairwise_iff_getElem.1 h1 ip i (by omega) (by omega) (by omega)
                    rw [(List.getElem?_eq_some_iff.1 hyp).2, (List.getElem?_eq_some_iff.1 hyi).2] at h2
                    exact h2
                  have hk : (0 :: (t.map (mi xrn)).reverse)[qd]? = some (mi xrn yi) := by
                    obtain ⟨q0, hq0⟩ : ∃ q0, qd = q0 + 1 := ⟨qd - 1, by omega⟩
                    have htl : t.length + 1 = m := by rw [← hlen]; rfl
                    have e1 : t[ip]? = some yi := by rw [hip] at hyi; simpa using hyi
                    rw [hq0, List.getElem?_cons_succ, List.getElem?_reverse (by rw [List.length_map]; omega), List.length_map, show t.length - 1 - q0 = ip by omega, List.getElem?_map, e1]
                    rfl
                  have x1 : wr.cell? ⟨g1, i, none⟩ = some (.int .i64 (yi : Nat)) := (World.cell?_of_block (a := ⟨g1, i, none⟩) (HBI.out.block g1 (lt_of_cell (HC9.out i yi hyi)))).trans (HC9.out i yi hyi)
                  have x2 : wr.cell? ⟨g1, ip, none⟩ = some (.int .i64 (yp : Nat)) := (World.cell?_of_block (a := ⟨g1, ip, none⟩) (HBI.out.block g1 (lt_of_cell (HC9.out ip yp hyp)))).trans (HC9.out ip yp hyp)
                  have x3 : wr.cell? ⟨g2, qd, none⟩ = some (.int .i64 (mi xrn yi : Nat)) := (World.cell?_of_block (a := ⟨g2, qd, none⟩) (HBI.out.block g2 (lt_of_cell (HD9.out qd _ hk)))).trans (HD9.out qd _ hk)
                  obtain ⟨a0, a1', a2'⟩ := HLI.out.nf.cells
                  simp only at a0 a1' a2'
                  obtain ⟨mv, hmv⟩ : ∃ mv, mv = mi xrn yi := ⟨_, rfl⟩
                  have HMC : Hid (∀ u, Calls Tryd.prog 7 #[.int .i64 (yi : Nat), .int .i64 (xrn : Nat)] u fun e w' => e = .returned (.int .i64 (mv : Nat)) ∧ w' = u) := fun u => by rw [hmv]; exact mirror_any xrn yi u (by omega) (by omega)
                  rw [← hmv] at x3
                  have j1 : (i : Int) - 1 = (ip : Int) := by omega
                  have j2 : (i : Int) < (m : Int) := by omega
                  have j3 : (ip : Int) < (m : Int) := by omega
                  have j4 : (m : Int) - (i : Int) = (qd : Int) := by omega
                  have j5 : (qd : Int) < (m : Int) := by omega
                  have j6 : decide ((yi : Int) ≤ (yp : Int)) = false := by simp; omega
                  have j7 : ¬ (yi : Int) ≤ (yp : Int) := by omega
                  have j8 : IntKind.i64.wrap ((i : Int) - 1) = (ip : Int) := by rw [IntKind.wrap_i64]; omega
                  have j9 : IntKind.i64.wrap (ip : Int) = (ip : Int) := by rw [IntKind.wrap_i64]; omega
                  have j10 : IntKind.i64.wrap ((m : Int) - (i : Int)) = (qd : Int) := by rw [IntKind.wrap_i64]; omega
                  have j11 : IntKind.i64.wrap (qd : Int) = (qd : Int) := by rw [IntKind.wrap_i64]; omega
                  have j12 : decide (yi ≤ yp) = false := by simp; omega
                  have HBN : Hid (∀ n, Below w9.heap.size w9 (wr.drewN n)) := fun n => HBI.out.trans ⟨rfl, rfl, rfl, Nat.le_refl _, fun _ _ => rfl⟩
                  clear hyi hyp hk hip hqd hlen hmv hsort hmem a1' a2' HLI HBI
                  go_upto_region 34 with fail
                  go_quiet ((go_at_call 7; exact Calls.quiet_of_same (HMC.out _)))
                  go_wp2
                  go_roundw
                  case rel => exact ⟨i + 1, by go_num, by omega, by omega, HBN.out _⟩
                  case measure => simp [intOf]; omega
                · have hil' : ¬ (i : Int) < (m : Int) := by omega
                  clear HC9 HD9 HL9 HBI
                  have hF := HF.out
                  have HRU1 : Hid (Calls Tryd.prog 10 #[.pointer (some ⟨W1, 0, none⟩)] wr _) := rules_any W1 wr HLI.out.k1
                  have HRU2 : Hid (∀ u, Below wr.heap.size wr u → Calls Tryd.prog 10 #[.pointer (some ⟨W2, 0, none⟩)] u fun e w' => e = .returned (.int .u32 (r : Nat)) ∧ w' = u) := fun u hu => rules_any W2 u (HLI.out.later hu).k2
                  have HEN1 : Hid (∀ u, Below wr.heap.size wr u → Calls Tryd.prog 11 #[.pointer (some ⟨W1, 0, none⟩)] u fun e w' => ∃ x, e = .returned (.int .u32 (x : Nat)) ∧ EndOf M (!decide (0 < j)) g r x ∧ Below u.heap.size u w') := fun u hu => end_any W1 u (HLI.out.later hu).k1 HF.out (HT.out.later (HLI.out.later hu).low) (by omega) (by rw [HLE.out]; omega) HQ.out.2.2.2 HCN.out.1 HCN.out.2.2.1
                  have HEN2 : Hid (∀ u, Below wr.heap.size wr u → Calls Tryd.prog 11 #[.pointer (some ⟨W2, 0, none⟩)] u fun e w' => ∃ x, e = .returned (.int .u32 (x : Nat)) ∧ EndOf (Tm xrn M) (!decide (0 < j)) (tr xrn g) r x ∧ Below u.heap.size u w') := fun u hu => end_any W2 u (HLI.out.later hu).k2 HFT.out (HT.out.later (HLI.out.later hu).low) (by omega) HET.out HQ.out.2.2.2 HCN.out.2.1 HCN.out.2.2.2
                  have hand : bits .and .u32 (r : Nat) (r0 : Nat) = (r0 : Nat) := by rw [HQ.out.1]; exact and_of_or HQ.out.2.1 HQ.out.2.2.1
                  clear hF
                  go_wp2_with fail
                  refine HRU1.out.mono ?_
                  rintro e1 u1 ⟨rfl, rfl⟩
                  clear HRU1
                  go_wp2_with fail
                  refine (HEN1.out _ (Below.refl _ _)).mono ?_
                  rintro e1 v1 ⟨x1, rfl, hx1, kv1⟩
                  have HX1 : Hid (EndOf M (!decide (0 < j)) g r x1) := hx1
                  have HV1 : Hid (Below u1.heap.size u1 v1) := kv1
                  have hand2 : bits .and .u32 (x1 : Nat) (r : Nat) = (r : Nat) := by
                    obtain ⟨h, hh, hx⟩ := hx1
                    rw [hx]
                    exact and_of_or HQ.out.2.2.2 (rulesG_lt HF.out.2.2.2.2)
                  clear hx1 kv1
                  go_wp2_with fail
                  refine (HRU2.out _ HV1.out).mono ?_
                  rintro e2 v2 ⟨rfl, rfl⟩
                  clear HRU2
                  go_wp2_with fail
                  refine (HEN2.out _ HV1.out).mono ?_
                  rintro e3 v3 ⟨x2, rfl, hx2, kv3⟩
                  have hxx : x2 = x1 := hx2.uniq (end_turn HF.out HTU.out HCN.out.1 HX1.out)
                  subst hxx
                  have HV3 : Hid (Below u1.heap.size u1 v3) := below_step HV1.out kv3
                  clear hx2 kv3 HEN2
                  go_wp2_with fail
                  refine (HEN1.out _ HV3.out).mono ?_
                  rintro e4 v4 ⟨x3, rfl, hx3, kv4⟩
                  have hxx : x3 = x2 := hx3.uniq HX1.out
                  subst hxx
                  have HV4 : Hid (Below u1.heap.size u1 v4) := below_step HV3.out kv4
                  have HL4 : Hid (Ln A xrn ⟨(xrn : Nat), xa, en, xc, xra, xrn, xrc⟩ B1 B2 W1 W2 M w v4 ((bts s2).take j) g r (decide (0 < j))) := HLI.out.later HV4.out
                  clear hx3 kv4 HEN1 HX1 HV1 HV3 HV4 HLI hand hand2
                  by_cases hjl : j < s2.size
                  · have hjl' : (j : Int) < (s2.size : Int) := by omega
                    have hb256 : s2[j].toNat < 256 := UInt8.toNat_lt _
                    have HTK : Hid ((bts s2).take (j + 1) = (bts s2).take j ++ [s2[j].toNat]) := bts_take s2 hjl
                    have HY1 : Hid (Calls Tryd.prog 12 #[.pointer (some ⟨W1, 0, none⟩), .int .u8 (s2[j].toNat : Nat)] v4 _) := byte_any W1 s2[j].toNat v4 HL4.out.k1 HF.out (HT.out.later HL4.out.low) (by have := HWW.out; omega) hb256 (by omega) (by rw [HLE.out]; omega) HQ.out.2.2.2 HCN.out.1
                    have HY2 : Hid (∀ u, v4.grownBy u (some W1) → Tab u → Calls Tryd.prog 12 #[.pointer (some ⟨W2, 0, none⟩), .int .u8 (s2[j].toNat : Nat)] u (BytePost B2 u W2 (Tm xrn M) xrn s2[j].toNat (tr xrn g) r)) := fun u hu hTu => byte_any W2 s2[j].toNat u (HL4.out.k2.other hu HL4.out.k1.ty (by decide) (by decide) (by decide) (by have := HWW.out; omega)) HFT.out hTu (by have := HWW.out; omega) hb256 (by omega) HET.out HQ.out.2.2.2 HCN.out.2.1
                    go_wp2_with fail
                    refine HY1.out.mono ?_
                    rintro e5 v5 ⟨rfl, hg5, g5, hcl5, hwk5⟩
                    have hlow5 : Below w.heap.size w v5 := HL4.out.low.grown hg5 HL4.out.low.size (fun k e => by cases e; exact HWW.out.2.2.1)
                    have HG5 : Hid (v4.grownBy v5 (some W1)) := hg5
                    have HL5 : Hid (Below w.heap.size w v5) := hlow5
                    have HCL5 : Hid (IsCl M.es (kmov false false) (nextS M.es s2[j].toNat g) g5) := hcl5
                    have HWK5 : Hid (WkAt B1 v5 W1 M xrn g5 (r ||| rulesG M.rs g5) true) := hwk5
                    have HY : Hid (Calls Tryd.prog 12 #[.pointer (some ⟨W2, 0, none⟩), .int .u8 (s2[j].toNat : Nat)] v5 _) := HY2.out v5 hg5 (HT.out.later hlow5)
                    clear hg5 hlow5 hcl5 hwk5 HY1 HY2
                    go_wp2_with fail
                    refine HY.out.mono ?_
                    rintro e6 v6 ⟨rfl, hg6, g6, hcl6, hwk6⟩
                    have hg65 : g6 = tr xrn g5 := by
                      have h := isCl_turn HF.out HTU.out (kmov_turn false false) (fun s hs => by
                        simp only [nextS, Bool.or_eq_true, decide_eq_true_eq, List.any_eq_true, Bool.and_eq_true] at hs
                        have h1 := HF.out.1
                        rcases hs with hs | ⟨y, hy, _, hs⟩
                        · omega
                        · have := HF.out.2.2.2.1 y hy; omega) HCL5.out
                      rw [tr_next HF.out HTU.out] at h
                      exact hcl6.uniq h
                    subst hg65
                    rw [rules_turn HF.out HTU.out] at hwk6
                    have HLF : Hid (j + 1 ≤ s2.size → ∃ g' r', Ln A xrn ⟨(xrn : Nat), xa, en, xc, xra, xrn, xrc⟩ B1 B2 W1 W2 M w v6 ((bts s2).take (j + 1)) g' r' (decide (0 < j + 1)) ∧ r < 4294967296 ∧ ∃ q, r' = r ||| q) := fun _ => by
                      refine ⟨g5, r ||| rulesG M.rs g5, ⟨HL5.out.grown hg6 HL5.out.size (fun k e => by cases e; exact HWW.out.2.2.2.1), ?_, ?_, ?_, ?_⟩, HQ.out.2.2.2, _, rfl⟩
                      · have hA1 : NFB v5 A _ := (HG5.out.block A HL4.out.nf.lt (fun e => by cases e; exact absurd (TyB.ne HL4.out.nf.ty HL4.out.k1.ty) (by decide))).trans HL4.out.nf
                        have ht2 := HL4.out.k2.ty
                        exact (hg6.block A hA1.lt (fun e => by cases e; exact absurd (TyB.ne HL4.out.nf.ty ht2) (by decide))).trans hA1
                      · rw [HTK.out]; exact .byte _ _ _ _ _ HL4.out.m HCL5.out
                      · rw [decide_eq_true (by omega)]
                        refine HWK5.out.other hg6 (t := 68) ?_ (by decide) (by decide) (by decide) (by have := HWW.out; omega)
                        exact (HL4.out.k2.other HG5.out HL4.out.k1.ty (by decide) (by decide) (by decide) (by have := HWW.out; omega)).ty
                      · rw [decide_eq_true (by omega)]; exact hwk6
                    have HBF : Hid (Below w.heap.size w v6) := HL5.out.grown hg6 HL5.out.size (fun k e => by cases e; exact HWW.out.2.2.2.1)
                    clear hg6 hcl6 hwk6 HY HG5 HL5 HCL5 HWK5 HL4 HBJ
                    go_wp2
                    go_roundw
                    case rel => exact ⟨j + 1, r, by go_num, rfl, by omega, HBF, HLF⟩
                    case measure => simp [intOf]; omega
                  · have hjl' : ¬ (j : Int) < (s2.size : Int) := by omega
                    have HLF : Hid (j + 1 ≤ s2.size → ∃ g' r', Ln A xrn ⟨(xrn : Nat), xa, en, xc, xra, xrn, xrc⟩ B1 B2 W1 W2 M w v4 ((bts s2).take (j + 1)) g' r' (decide (0 < j + 1)) ∧ r < 4294967296 ∧ ∃ q, r' = r ||| q) := fun h => by omega
                    have HBF : Hid (Below w.heap.size w v4) := HL4.out.low
                    go_wp2
                    go_roundw
                    case rel => exact ⟨j + 1, r, by go_num, rfl, by omega, HBF, HLF⟩
                    case measure => simp [intOf]; omega
            · have hjs' : ¬ (j : Int) ≤ (s2.size : Int) := by omega
              go_wp2
              go_ret
              exact ⟨rfl, HBJ.out⟩
end Go.Proofs.YtmjnobdlgbojoaaDoor
