/- heronref03's Has; heronref08's Begin and End. -/
import Derived.Test.YtmjnobdlgbojoaaDoorG15
import Derived.Test.YtmjnobdlgbojoaaDoorG07
namespace Go.Proofs.YtmjnobdlgbojoaaDoor
open Go.RowKit
attribute [local go_sem ↓] Go.wp_at_zero Go.wp_at_succ

theorem rhas_bit (s : Oct.S) (b i : Nat) (h : b / 64 = i) : ((((Oct.word s i / 2 ^ (b % 64) : Nat) : Int) % 2) == 1) = s b := by
  have hw := Oct.word_has s b
  rw [h] at hw
  have e : (((Oct.word s i / 2 ^ (b % 64) : Nat) : Int) % 2) = ((Oct.word s i / 2 ^ (b % 64) % 2 : Nat) : Int) := by simp
  rw [e, hw]
  cases s b <;> simp
theorem rhas_any (s : Oct.S) (b : Nat) (w : World) (hb : b < 256) : Calls Tryd.prog 43 #[setV s, .int .i64 b] w fun e w' => e = .returned (.bool (s b)) ∧ Below w.heap.size w w' := by
  unfold setV
  rcases quo4 hb with ⟨hn, hq⟩ | ⟨hn, hq⟩ | ⟨hn, hq⟩ | ⟨hn, hq⟩
  all_goals
    have HN : Hid (b / 64 = _) := hn
    clear hn
    go_enter Tryd.func43, Tryd.ntmps43
    go_wp2
    go_loop [5, 6] (fun x i => ∃ k : Nat, k ≤ b % 64 ∧ i = .int .i64 k ∧ x = .int .u64 (Oct.word s (b / 64) / 2 ^ k : Nat)) (fun _ i => 64 - (intOf i).toNat)
    case atStart => exact ⟨0, Nat.zero_le _, rfl, by rw [HN.out]; simp⟩
    case round =>
      obtain ⟨k, hk, rfl, rfl⟩ := hrel
      have hl : Oct.word s (b / 64) / 2 ^ k < 18446744073709551616 := Nat.lt_of_le_of_lt (Nat.div_le_self _ _) (Oct.word_lt s _)
      have HS : Hid (Oct.word s (b / 64) / 2 ^ (k + 1) = Oct.word s (b / 64) / 2 ^ k / 2) := by
        show _ = _
        rw [Nat.div_div_eq_div_mul, Nat.pow_succ]
      have HR : Hid (k = b % 64 → ((((Oct.word s (b / 64) / 2 ^ k : Nat) : Int) % 2) == 1) = s b) := fun e => by rw [e]; exact rhas_bit s b _ rfl
      obtain ⟨x, hx⟩ : ∃ x, x = Oct.word s (b / 64) / 2 ^ k := ⟨_, rfl⟩
      rw [← hx] at hl HS HR ⊢
      clear hx
      by_cases hlt : k < b % 64
      · go_wp2
        go_round
        case rel => exact ⟨k + 1, by omega, by go_num, by rw [HS.out]; simp⟩
        case measure => simp [intOf]; omega
      · go_wp2
        go_ret
        exact ⟨ret_bool (HR.out (by omega)), (Below.refl _ _).alloc (Nat.le_refl _) _⟩
theorem rowB_low {w : World} {b b' g n c : Nat} {bs : List Bool} (h : RowB w b (.slice (some ⟨g, 0, none⟩) n c) bs) (hb : b' ≤ b) : RowB w b' (.slice (some ⟨g, 0, none⟩) n c) bs := by
  refine ⟨h.1, ?_⟩
  rcases h.2 with ⟨hv, hr⟩ | ⟨g', cap, cur, hv, hbg, hr⟩
  · exact Or.inl ⟨hv, hr⟩
  · exact Or.inr ⟨g', cap, cur, hv, Nat.le_trans hb hbg, hr⟩
/-- heronref08's walk, whole -/
def RkAt (b0 : Nat) (w : World) (B : Nat) (x : Nf) (S : Nat) (g : Oct.S) (r : Nat) (f : Bool) : Prop := ∃ gb c, b0 ≤ B ∧ RWB w B x (.slice (some ⟨gb, 0, none⟩) S c) r f ∧ RowB w b0 (.slice (some ⟨gb, 0, none⟩) S c) (bsOf g S)
theorem RkAt.lt {b0 : Nat} {w : World} {B : Nat} {x : Nf} {S : Nat} {g : Oct.S} {r : Nat} {f : Bool} (h : RkAt b0 w B x S g r f) : B < w.heap.size := by
  obtain ⟨_, _, _, h1, _⟩ := h
  exact h1.lt
theorem RkAt.ty {b0 : Nat} {w : World} {B : Nat} {x : Nf} {S : Nat} {g : Oct.S} {r : Nat} {f : Bool} (h : RkAt b0 w B x S g r f) : TyB w 81 B := by
  obtain ⟨_, _, _, h1, _⟩ := h
  exact h1.ty
theorem RkAt.later {b0 : Nat} {w w' : World} {B : Nat} {x : Nf} {S : Nat} {g : Oct.S} {r : Nat} {f : Bool} (h : RkAt b0 w B x S g r f) (hb : Below w.heap.size w w') : RkAt b0 w' B x S g r f := by
  obtain ⟨gb, c, h0, h1, h2⟩ := h
  exact ⟨gb, c, h0, h1.later hb, h2.later hb⟩
/-- another's block is written -/
theorem RkAt.other {b0 : Nat} {w w' : World} {B W t : Nat} {x : Nf} {S : Nat} {g : Oct.S} {r : Nat} {f : Bool} (h : RkAt b0 w B x S g r f) (hg : w.grownBy w' (some W)) (ht : TyB w t W) (h1 : t ≠ 4) (hB : B ≠ W) : RkAt b0 w' B x S g r f := by
  obtain ⟨gb, c, h0, h2, h3⟩ := h
  refine ⟨gb, c, h0, (hg.block B h2.lt (fun e => hB (Option.some.inj e))).trans h2, h3.same (hg.block gb h3.lt.1 (fun e => ?_))⟩
  have e2 := Option.some.inj e
  subst e2
  exact absurd (TyB.ne ht h3.ty) (by simpa using h1)
theorem zero_bs {S : Nat} (h : 1 ≤ S) : bsS ((List.replicate S false).set 0 true) = zeroS := by
  funext s
  unfold bsS zeroS
  by_cases hs : s = 0
  · subst hs
    rw [List.getElem?_set_self (by simp; omega)]
    rfl
  · rw [List.getElem?_set_ne (by omega)]
    by_cases h2 : s < S
    · simp [h2, hs]
    · rw [List.getElem?_eq_none (by simp; omega)]
      simp [hs]
/-- what Begin leaves -/
def RBegPost (w : World) (M : Ma) (x : Nf) (e : Ending) (w' : World) : Prop := Below w.heap.size w w' ∧
  ((rightOf M = false ∧ e = .returned (.tuple #[.pointer none, .int .i64 70])) ∨ (rightOf M = true ∧ ∃ B g r, e = .returned (.tuple #[.pointer (some ⟨B, 0, none⟩), .int .i64 0]) ∧ Mom M [] g r ∧ RkAt w.heap.size w' B x M.rs.length g r true))
set_option maxRecDepth 8000 in
set_option maxHeartbeats 16000000 in
theorem rbegin_any (M : Ma) (x : Nf) (w : World) (hx : MaAt (fun _ => True) w M x) (he : M.es.length ≤ 1048576) (hr : M.rs.length ≤ 1048576) (h32 : ∀ z ∈ M.rs, z < 4294967296) : Calls Tryd.prog 17 #[x.val] w (RBegPost w M x) := by
  have kk : Below w.heap.size w (w.alloc (.cells #[.int .i64 x.S, .slice x.ea x.en x.ec, .slice x.ra x.rn x.rc] 25)) := (Below.refl _ _).alloc (Nat.le_refl _) _
  have HNX : Hid (NFB (w.alloc (.cells #[.int .i64 x.S, .slice x.ea x.en x.ec, .slice x.ra x.rn x.rc] 25)) w.heap.size x) := nfb_new w x
  have HB : Hid (Below w.heap.size w (w.alloc (.cells #[.int .i64 x.S, .slice x.ea x.en x.ec, .slice x.ra x.rn x.rc] 25))) := kk
  have HMX : Hid (MaAt (fun _ => True) (w.alloc (.cells #[.int .i64 x.S, .slice x.ea x.en x.ec, .slice x.ra x.rn x.rc] 25)) M x) := hx.later kk
  obtain ⟨w1, hw1⟩ : ∃ w1, w.alloc (.cells #[.int .i64 x.S, .slice x.ea x.en x.ec, .slice x.ra x.rn x.rc] 25) = w1 := ⟨_, rfl⟩
  rw [hw1] at HNX HB HMX
  obtain ⟨A, hA⟩ : ∃ A, w.heap.size = A := ⟨_, rfl⟩
  rw [hA] at HNX
  have HW1 : Hid (w.alloc (.cells #[.int .i64 x.S, .slice x.ea x.en x.ec, .slice x.ra x.rn x.rc] 25) = w1) := hw1
  have HAA : Hid (w.heap.size = A) := hA
  have HC : Hid (Calls Tryd.prog 38 #[x.val] w1 _) := right_any w1 HMX.out (by omega)
  have H32 : Hid (∀ z ∈ M.rs, z < 4294967296) := h32
  have HM0 : Hid (MaAt (fun _ => True) w M x) := hx
  clear kk hx hw1 hA h32
  obtain ⟨xS, xa, en, xc, xra, xrn, xrc⟩ := x
  unfold Nf.val at HC
  unfold Nf.val
  simp only at HC HW1 ⊢
  obtain ⟨b0, b1, b2⟩ := HNX.out.cells
  simp only at b0 b1 b2
  go_enter Tryd.func17, Tryd.ntmps17
  go_upto_region 1 with fail
  rw [HW1.out, HAA.out]
  clear HW1
  go_wp2_with fail
  refine HC.out.mono ?_
  rintro e w2 ⟨rfl, k2⟩
  have HB2 : Hid (Below w.heap.size w w2) := below_step HB.out k2
  have HMX2 : Hid (MaAt (fun _ => True) w2 M ⟨xS, xa, en, xc, xra, xrn, xrc⟩) := HMX.out.later k2
  have HNX2 : Hid (NFB w2 A ⟨xS, xa, en, xc, xra, xrn, xrc⟩) := HNX.out.later k2
  clear k2 HC HMX HNX HB b0 b1 b2
  obtain ⟨b0, b1, b2⟩ := HNX2.out.cells
  simp only at b0 b1 b2
  cases hok : rightOf M with
  | false =>
    have HOK : Hid (rightOf M = false) := hok
    clear hok
    go_wp2
    go_ret2
    exact ⟨HB2.out, Or.inl ⟨HOK.out, rfl⟩⟩
  | true =>
  have HOK : Hid (rightOf M = true) := hok
  have HF : Hid (Fits M M.rs.length) := fits_of hok H32.out
  obtain ⟨S, hS⟩ : ∃ S, S = M.rs.length := ⟨_, rfl⟩
  rw [← hS] at HF hr
  have HSR : Hid (S = M.rs.length) := hS
  obtain ⟨q1, q2, q3, q4, q5⟩ := HMX2.out
  simp only at q1 q2 q3 q4 q5
  have hrn : xrn = S := by rw [q3, hS]
  have hSS : xS = (S : Nat) := by rw [q1]; exact HF.out.2.1
  subst hrn hSS
  have hS1 : 1 ≤ xrn := HF.out.1
  clear hok q1 q2 q3 q4 q5 hS
  -- the walk's block
  have k3 : Below w2.heap.size w2 (w2.alloc (.cells #[.int .i64 (xrn : Nat), .slice xa en xc, .slice xra xrn xrc, .slice none 0 0, .int .u32 0, .bool true] 81)) := (Below.refl _ _).alloc (Nat.le_refl _) _
  have HRW : Hid (RWB (w2.alloc (.cells #[.int .i64 (xrn : Nat), .slice xa en xc, .slice xra xrn xrc, .slice none 0 0, .int .u32 0, .bool true] 81)) w2.heap.size ⟨(xrn : Nat), xa, en, xc, xra, xrn, xrc⟩ (.slice none 0 0) 0 true) := heap_alloc_new _ _
  have HB3 : Hid (Below w.heap.size w (w2.alloc (.cells #[.int .i64 (xrn : Nat), .slice xa en xc, .slice xra xrn xrc, .slice none 0 0, .int .u32 0, .bool true] 81))) := below_step HB2.out k3
  have HMX3 : Hid (MaAt (fun _ => True) (w2.alloc (.cells #[.int .i64 (xrn : Nat), .slice xa en xc, .slice xra xrn xrc, .slice none 0 0, .int .u32 0, .bool true] 81)) M ⟨(xrn : Nat), xa, en, xc, xra, xrn, xrc⟩) := HMX2.out.later k3
  have HNX3 : Hid (NFB (w2.alloc (.cells #[.int .i64 (xrn : Nat), .slice xa en xc, .slice xra xrn xrc, .slice none 0 0, .int .u32 0, .bool true] 81)) A ⟨(xrn : Nat), xa, en, xc, xra, xrn, xrc⟩) := HNX2.out.later k3
  have HWB : Hid (w.heap.size ≤ w2.heap.size) := HB2.out.size
  go_upto_region 5 with fail
  obtain ⟨w3, hw3⟩ : ∃ w3, w2.alloc (.cells #[.int .i64 (xrn : Nat), .slice xa en xc, .slice xra xrn xrc, .slice none 0 0, .int .u32 0, .bool true] 81) = w3 := ⟨_, rfl⟩
  obtain ⟨B, hBB⟩ : ∃ B, w2.heap.size = B := ⟨_, rfl⟩
  rw [hw3] at HRW HB3 HMX3 HNX3 ⊢
  rw [hBB] at HRW HWB ⊢
  clear hw3 hBB k3 b0 b1 b2 HMX2 HNX2 HB2
  obtain ⟨b0, b1, b2⟩ := HNX3.out.cells
  simp only at b0 b1 b2
  have HZ3 : Hid (w.heap.size ≤ w3.heap.size) := HB3.out.size
  go_upto_region 6 with (first | (refine wpList_make_bool rfl _ _ rfl w.heap.size xrn HZ3.out rfl rfl (by omega) ?_; intro w4 hn4 hb4; have HR4 : Hid (RowB w4 w.heap.size (.slice (some ⟨w3.heap.size, 0, none⟩) xrn xrn) (List.replicate xrn false)) := hn4; have HK4 : Hid (Below w3.heap.size w3 w4) := hb4; clear hn4 hb4) | fail)
  obtain ⟨gb, hgb⟩ : ∃ gb, w3.heap.size = gb := ⟨_, rfl⟩
  have HGB : Hid (w3.heap.size = gb) := hgb
  rw [hgb] at HR4 ⊢
  clear hgb b0 b1 b2
  obtain ⟨cc, fz⟩ := HR4.out.cell (i := 0) (x := false) (by rw [List.getElem?_replicate, if_pos (by omega)])
  have HR5 : Hid (RowB (w4.setCell ⟨gb, 0, none⟩ (.bool true)) w.heap.size (.slice (some ⟨gb, 0, none⟩) xrn xrn) ((List.replicate xrn false).set 0 true)) := HR4.out.put 0 true
  have k5 : Below w3.heap.size w3 (w4.setCell ⟨gb, 0, none⟩ (.bool true)) := HK4.out.setCell (p := ⟨gb, 0, none⟩) (by rw [HGB.out]; exact Nat.le_refl _) _
  have HB5 : Hid (Below w.heap.size w (w4.setCell ⟨gb, 0, none⟩ (.bool true))) := below_step HB3.out k5
  have HRW5 : Hid (RWB (w4.setCell ⟨gb, 0, none⟩ (.bool true)) B ⟨(xrn : Nat), xa, en, xc, xra, xrn, xrc⟩ (.slice none 0 0) 0 true) := HRW.out.later k5
  have HMX5 : Hid (MaAt (fun _ => True) (w4.setCell ⟨gb, 0, none⟩ (.bool true)) M ⟨(xrn : Nat), xa, en, xc, xra, xrn, xrc⟩) := HMX3.out.later k5
  go_upto_region 7 with fail
  obtain ⟨w5, hw5⟩ : ∃ w5, w4.setCell ⟨gb, 0, none⟩ (.bool true) = w5 := ⟨_, rfl⟩
  rw [hw5] at HR5 HB5 HRW5 HMX5 ⊢
  clear hw5 k5 HR4 HK4 cc fz HB3 HMX3 HNX3 HRW HGB
  have HEF : Hid (∀ y ∈ M.es, 0 ≤ y.f ∧ y.f < xrn ∧ 0 ≤ y.t ∧ y.t < xrn) := HF.out.2.2.2.1
  have HSP : Hid (Calls Tryd.prog 39 #[.pointer (some ⟨B, 0, none⟩), .slice (some ⟨gb, 0, none⟩) xrn xrn, .bool true, .bool false] w5 _) := rspread_any B gb xrn xrn w5 HMX5.out HRW5.out HR5.out (by omega) hr he HEF.out true false
  obtain ⟨_, _, _, v3, v4, v5⟩ := HRW5.out.cells
  go_wp2_with fail
  refine HSP.out.mono ?_
  rintro e6 w6 ⟨ob, oc, ms, rfl, hcl, hrow, k6⟩
  have hRW6 := HRW5.out.later k6
  have f6 := hRW6.frozen 3
  have hml : ms.length = xrn := by rw [← hcl.sub.1]; simp
  have hcl2 := clo_isCl hcl (fun y hy => by have := HEF.out y hy; simp; omega)
  rw [zero_bs hS1] at hcl2
  have hms : ms = bsOf (bsS ms) xrn := by rw [← hml, bsOf_S]
  have HMO : Hid (Mom M [] (bsS ms) (rulesG M.rs (bsS ms))) := .beg _ hcl2
  obtain ⟨g, hg⟩ : ∃ g, g = bsS ms := ⟨_, rfl⟩
  rw [← hg] at hms HMO
  rw [hms] at hrow
  have hBne : B ≠ ob := fun e => by subst e; exact absurd (TyB.ne hRW6.ty hrow.ty) (by decide)
  have hRW7 : RWB (w6.setCell ⟨B, 3, none⟩ (.slice (some ⟨ob, 0, none⟩) xrn oc)) B ⟨(xrn : Nat), xa, en, xc, xra, xrn, xrc⟩ (.slice (some ⟨ob, 0, none⟩) xrn oc) 0 true := by unfold RWB; rw [heap_set hRW6]; rfl
  have hrow7 : RowB (w6.setCell ⟨B, 3, none⟩ (.slice (some ⟨ob, 0, none⟩) xrn oc)) w5.heap.size (.slice (some ⟨ob, 0, none⟩) xrn oc) (bsOf g xrn) := hrow.same (Below.heap_setCell w6 ⟨B, 3, none⟩ _ ob (fun e => hBne e.symm))
  have hlow7 : Below w.heap.size w (w6.setCell ⟨B, 3, none⟩ (.slice (some ⟨ob, 0, none⟩) xrn oc)) := (below_step HB5.out k6).setCell (p := ⟨B, 3, none⟩) HWB.out _
  have hMX7 : MaAt (fun _ => True) (w6.setCell ⟨B, 3, none⟩ (.slice (some ⟨ob, 0, none⟩) xrn oc)) M ⟨(xrn : Nat), xa, en, xc, xra, xrn, xrc⟩ := HM0.out.later hlow7
  have HRW7 : Hid (RWB (w6.setCell ⟨B, 3, none⟩ (.slice (some ⟨ob, 0, none⟩) xrn oc)) B ⟨(xrn : Nat), xa, en, xc, xra, xrn, xrc⟩ (.slice (some ⟨ob, 0, none⟩) xrn oc) 0 true) := hRW7
  have HRO7 : Hid (RowB (w6.setCell ⟨B, 3, none⟩ (.slice (some ⟨ob, 0, none⟩) xrn oc)) w5.heap.size (.slice (some ⟨ob, 0, none⟩) xrn oc) (bsOf g xrn)) := hrow7
  have HLO7 : Hid (Below w.heap.size w (w6.setCell ⟨B, 3, none⟩ (.slice (some ⟨ob, 0, none⟩) xrn oc))) := hlow7
  have HWD : Hid (Calls Tryd.prog 40 #[.pointer (some ⟨B, 0, none⟩), .slice (some ⟨ob, 0, none⟩) xrn oc] (w6.setCell ⟨B, 3, none⟩ (.slice (some ⟨ob, 0, none⟩) xrn oc)) _) := rwords_any B ob xrn oc _ hMX7 hRW7 hrow7 HSR.out hr H32.out
  have g3 : w6.cell? ⟨B, 3, none⟩ = some (.slice none 0 0) := hRW6.cells.2.2.2.1
  have HW5 : Hid (w.heap.size ≤ w5.heap.size) := HB5.out.size
  have HBN : Hid (B ≠ ob) := hBne
  clear hcl hrow k6 hRW6 hml hcl2 hms hg hRW7 hrow7 hlow7 hMX7 HSP HR5 HB5 HRW5 HMX5 v3 v4 v5 hBne
  go_upto_region 8 with fail
  obtain ⟨w7, hw7⟩ : ∃ w7, w6.setCell ⟨B, 3, none⟩ (.slice (some ⟨ob, 0, none⟩) xrn oc) = w7 := ⟨_, rfl⟩
  rw [hw7] at HRW7 HRO7 HLO7 HWD ⊢
  clear hw7 f6 g3
  obtain ⟨_, _, _, v3, v4, v5⟩ := HRW7.out.cells
  have f4 := HRW7.out.frozen 4
  go_wp2_with fail
  refine HWD.out.mono ?_
  rintro e8 w8 ⟨rfl, rfl⟩
  have HRW9 : Hid (RWB (w8.setCell ⟨B, 4, none⟩ (.int .u32 (rulesG M.rs g : Nat))) B ⟨(xrn : Nat), xa, en, xc, xra, xrn, xrc⟩ (.slice (some ⟨ob, 0, none⟩) xrn oc) (rulesG M.rs g) true) := by unfold RWB; rw [heap_set HRW7.out]; rfl
  have HRO9 : Hid (RowB (w8.setCell ⟨B, 4, none⟩ (.int .u32 (rulesG M.rs g : Nat))) w5.heap.size (.slice (some ⟨ob, 0, none⟩) xrn oc) (bsOf g xrn)) := HRO7.out.same (Below.heap_setCell w8 ⟨B, 4, none⟩ _ ob (fun e => HBN.out e.symm))
  have HLO9 : Hid (Below w.heap.size w (w8.setCell ⟨B, 4, none⟩ (.int .u32 (rulesG M.rs g : Nat)))) := HLO7.out.setCell (p := ⟨B, 4, none⟩) HWB.out _
  have HFN : Hid (RkAt w.heap.size (w8.setCell ⟨B, 4, none⟩ (.int .u32 (rulesG M.rs g : Nat))) B ⟨(xrn : Nat), xa, en, xc, xra, xrn, xrc⟩ M.rs.length g (rulesG M.rs g) true) := by
    rw [← HSR.out]
    exact ⟨ob, oc, HWB.out, HRW9.out, rowB_low HRO9.out HW5.out⟩
  clear HRW9 HRO9 HRW7 HRO7 HLO7 HWD
  obtain ⟨r, hr'⟩ : ∃ r, rulesG M.rs g = r := ⟨_, rfl⟩
  rw [hr'] at HFN HMO HLO9 ⊢
  clear hr'
  go_wp2
  go_ret2
  exact ⟨HLO9.out, Or.inr ⟨HOK.out, B, g, r, rfl, HMO.out, HFN.out⟩⟩
set_option maxRecDepth 8000 in
set_option maxHeartbeats 16000000 in
theorem rend_any {b0 : Nat} {M : Ma} {x : Nf} {S : Nat} {g : Oct.S} {r : Nat} {f : Bool} (B : Nat) (w : World) (h : RkAt b0 w B x S g r f) (hx : MaAt (fun _ => True) w M x) (hF : Fits M S) (he : M.es.length ≤ 1048576) (hS : S ≤ 1048576) (hr : r < 4294967296) (hlt : ∀ s, g s = true → s < S) : Calls Tryd.prog 37 #[.pointer (some ⟨B, 0, none⟩)] w fun e w' => ∃ z, e = .returned (.int .u32 (z : Nat)) ∧ EndOf M f g r z ∧ Below w.heap.size w w' := by
  obtain ⟨gb, c, hb, h1, h2⟩ := h
  obtain ⟨_, _, _, v3, v4, v5⟩ := h1.cells
  have hS1 : 1 ≤ S := hF.1
  have HSP : Hid (∀ u, Below w.heap.size w u → Calls Tryd.prog 39 #[.pointer (some ⟨B, 0, none⟩), .slice (some ⟨gb, 0, none⟩) S c, .bool f, .bool true] u fun e w' => ∃ ob oc h, e = .returned (.slice (some ⟨ob, 0, none⟩) S oc) ∧ IsCl M.es (kmov f true) g h ∧ RowB w' u.heap.size (.slice (some ⟨ob, 0, none⟩) S oc) (bsOf h S) ∧ Below u.heap.size u w') := fun u hu => by
    refine (rspread_any B gb S c u (hx.later hu) (h1.later hu) (h2.later hu) (by omega) hS he hF.2.2.2.1 f true).mono ?_
    rintro e w' ⟨ob, oc, ms, rfl, hcl, hrow, k6⟩
    have hml : ms.length = S := by rw [← hcl.sub.1, bsOf_len]
    have hcl2 := clo_isCl hcl (fun y hy => by have := hF.2.2.2.1 y hy; rw [bsOf_len]; omega)
    rw [bsS_of hlt] at hcl2
    have hms : ms = bsOf (bsS ms) S := by rw [← hml, bsOf_S]
    rw [hms] at hrow
    exact ⟨ob, oc, bsS ms, rfl, hcl2, hrow, k6⟩
  have HWD : Hid (∀ u ob oc b1 h, Below w.heap.size w u → RowB u b1 (.slice (some ⟨ob, 0, none⟩) S oc) (bsOf h S) → Calls Tryd.prog 40 #[.pointer (some ⟨B, 0, none⟩), .slice (some ⟨ob, 0, none⟩) S oc] u fun e w' => e = .returned (.int .u32 (rulesG M.rs h : Nat)) ∧ w' = u) := fun u ob oc b1 h hu hrow => rwords_any B ob S oc u (hx.later hu) (h1.later hu) hrow hF.2.2.1.symm hS hF.2.2.2.2
  have HCE : Hid (∀ u, Below w.heap.size w u → u.cell? ⟨B, 4, none⟩ = some (.int .u32 (r : Nat))) := fun u hu => (h1.later hu).cells.2.2.2.2.1
  have H32 : Hid (∀ z ∈ M.rs, z < 4294967296) := hF.2.2.2.2
  clear hb h1 h2 hx hF hlt
  go_enter Tryd.func37, Tryd.ntmps37
  go_upto_region 1 with fail
  go_cut [3] (fun v wx => ∃ ob oc h, v = .slice (some ⟨ob, 0, none⟩) S oc ∧ Hid (IsCl M.es (kmov f true) g h) ∧ Hid (RowB wx w.heap.size (.slice (some ⟨ob, 0, none⟩) S oc) (bsOf h S)) ∧ Hid (Below w.heap.size w wx))
  case first =>
    go_region_with (go_at_call 39; refine (HSP.out _ ((Below.refl _ _).drew)).mono ?_; rintro e u ⟨ob, oc, h, rfl, hcl, hrow, hu⟩; have HFI : Hid (IsCl M.es (kmov f true) g h ∧ RowB u w.heap.size (.slice (some ⟨ob, 0, none⟩) S oc) (bsOf h S) ∧ Below w.heap.size w u) := ⟨hcl, hrow, ((Below.refl _ w).drew).trans hu⟩; clear hcl hrow hu)
    all_goals
      go_wp2_with fail
      go_meet
      case rel => exact ⟨_, _, _, rfl, HFI.out.1, HFI.out.2.1, HFI.out.2.2⟩
  case rest =>
  obtain ⟨ob, oc, h, rfl, HCL, HRO, HLO⟩ := hcut
  have HWC : Hid (∀ n, Calls Tryd.prog 40 #[.pointer (some ⟨B, 0, none⟩), .slice (some ⟨ob, 0, none⟩) S oc] (wc.drewN n) fun e w' => e = .returned (.int .u32 (rulesG M.rs h : Nat)) ∧ w' = wc.drewN n) := fun n => HWD.out _ ob oc _ h (below_step HLO.out ⟨rfl, rfl, rfl, Nat.le_refl _, fun _ _ => rfl⟩) (HRO.out.later ⟨rfl, rfl, rfl, Nat.le_refl _, fun _ _ => rfl⟩)
  obtain ⟨ρ, hρ⟩ : ∃ ρ, rulesG M.rs h = ρ := ⟨_, rfl⟩
  have hρl : ρ < 4294967296 := by rw [← hρ]; exact rulesG_lt H32.out
  have HEN : Hid (EndOf M f g r (r ||| ρ)) := ⟨h, HCL.out, by rw [hρ]⟩
  rw [hρ] at HWC
  have hor : bits .or .u32 (r : Nat) (ρ : Nat) = ((r ||| ρ : Nat) : Int) := u32_or_nat r ρ hr hρl
  have c4 := HCE.out wc HLO.out
  have HLN : Hid (∀ n, Below w.heap.size w (wc.drewN n)) := fun n => below_step HLO.out ⟨rfl, rfl, rfl, Nat.le_refl _, fun _ _ => rfl⟩
  clear hρ v3 v4 v5 HSP HWD HCE HCL HRO HLO
  go_upto_region 2 with fail
  go_quiet ((go_at_call 40; exact Calls.quiet_of_same (HWC.out _)))
  go_wp2
  go_ret
  exact ⟨r ||| ρ, rfl, HEN.out, HLN.out _⟩
end Go.Proofs.YtmjnobdlgbojoaaDoor
