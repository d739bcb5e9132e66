/- heronref08's Byte. -/
import Derived.Test.YtmjnobdlgbojoaaDoorG16
namespace Go.Proofs.YtmjnobdlgbojoaaDoor
open Go.RowKit
attribute [local go_sem ↓] Go.wp_at_zero Go.wp_at_succ

theorem gb_below {w u : World} {B : Nat} (h : Below w.heap.size w u) : w.grownBy u (some B) := ⟨h.os, h.tape, h.output, h.size, fun k hk _ => h.block k hk⟩
theorem gb_later {w u u' : World} {B : Nat} (h : w.grownBy u (some B)) (hb : Below u.heap.size u u') : w.grownBy u' (some B) :=
  ⟨hb.os.trans h.os, hb.tape.trans h.tape, hb.output.trans h.output, Nat.le_trans h.size hb.size, fun k hk hne => (hb.block k (Nat.lt_of_lt_of_le hk h.size)).trans (h.block k hk hne)⟩
theorem gb_set {w u : World} {B : Nat} (h : w.grownBy u (some B)) (i : Nat) (v : Value) : w.grownBy (u.setCell ⟨B, i, none⟩ v) (some B) :=
  ⟨h.os, h.tape, h.output, by simpa [World.setCell] using h.size, fun k hk hne => (Below.heap_setCell u ⟨B, i, none⟩ _ k (fun e => hne (by rw [e]))).trans (h.block k hk hne)⟩
theorem bsOf_put (g : Oct.S) {S T : Nat} (h : T < S) : (bsOf g S).set T true = bsOf (Oct.ins g T) S := by
  apply List.ext_getElem?
  intro i
  by_cases hi : i < S
  · rw [bsOf_at _ hi]
    by_cases e : i = T
    · subst e
      rw [List.getElem?_set_self (by rw [bsOf_len]; exact hi)]
      simp [Oct.ins]
    · rw [List.getElem?_set_ne (fun h => e h.symm), bsOf_at _ hi]
      simp [Oct.ins, e]
  · rw [List.getElem?_eq_none (by rw [List.length_set, bsOf_len]; omega), List.getElem?_eq_none (by rw [bsOf_len]; omega)]
theorem next_step {es : List Eg} {b k : Nat} {g : Oct.S} {y : Eg} (hy : es[k]? = some y) : nextS (es.take (k + 1)) b g = if decide (y.k = 2) && g y.f.toNat && y.s b then Oct.ins (nextS (es.take k) b g) y.t.toNat else nextS (es.take k) b g := by
  funext s
  have e : nextS (es.take (k + 1)) b g s = (nextS (es.take k) b g s || (decide (y.k = 2) && g y.f.toNat && y.s b && decide (y.t.toNat = s))) := by
    unfold nextS
    rw [List.take_add_one, hy]
    simp [List.any_append, Bool.or_assoc]
  rw [e]
  cases hc : (decide (y.k = 2) && g y.f.toNat && y.s b) with
  | false => simp
  | true =>
    simp only [Oct.ins, if_true, Bool.true_and]
    by_cases h : y.t.toNat = s
    · subst h; simp
    · have h' : ¬ s = y.t.toNat := fun e => h e.symm
      simp [h, h']
theorem next_zero (es : List Eg) (b : Nat) (g : Oct.S) {S : Nat} (h : 1 ≤ S) : (List.replicate S false).set 0 true = bsOf (nextS (es.take 0) b g) S := by
  have e : nextS (es.take 0) b g = Oct.ins (fun _ => false) 0 := by
    funext s
    by_cases h : s = 0
    · simp [nextS, Oct.ins, h]
    · simp [nextS, Oct.ins, h]
  rw [e, ← bsOf_put _ (by omega : 0 < S)]
  congr 1
  simp [bsOf, List.map_const']
def RBytePost (b0 : Nat) (w : World) (B : Nat) (M : Ma) (x : Nf) (S b : Nat) (g : Oct.S) (r : Nat) (e : Ending) (w' : World) : Prop := e = .returned (.tuple #[]) ∧ w.grownBy w' (some B) ∧ ∃ g2, IsCl M.es (kmov false false) (nextS M.es b g) g2 ∧ RkAt b0 w' B x S g2 (r ||| rulesG M.rs g2) false
set_option maxRecDepth 8000 in
set_option maxHeartbeats 32000000 in
theorem rbyte_any {b0 : Nat} {M : Ma} {x : Nf} {S : Nat} {g : Oct.S} {r : Nat} {f : Bool} (B b : Nat) (w : World) (h : RkAt b0 w B x S g r f) (hx : MaAt (fun k => k ≠ B) w M x) (hF : Fits M S) (he : M.es.length ≤ 1048576) (hS : S ≤ 1048576) (hr : r < 4294967296) (hlt : ∀ s, g s = true → s < S) (hb : b < 256) (h0 : b0 ≤ w.heap.size) : Calls Tryd.prog 20 #[.pointer (some ⟨B, 0, none⟩), .int .u8 (b : Nat)] w (RBytePost b0 w B M x S b g r) := by
  obtain ⟨gb, c, hbB, h1, h2⟩ := h
  have hS1 : 1 ≤ S := hF.1
  have HMX : Hid (MaAt (fun k => k ≠ B) w M x) := hx
  have HRW : Hid (RWB w B x (.slice (some ⟨gb, 0, none⟩) S c) r f) := h1
  have HRO : Hid (RowB w b0 (.slice (some ⟨gb, 0, none⟩) S c) (bsOf g S)) := h2
  have HF : Hid (Fits M S) := hF
  have HLT : Hid (∀ s, g s = true → s < S) := hlt
  have H32 : Hid (∀ z ∈ M.rs, z < 4294967296) := hF.2.2.2.2
  have HEF : Hid (∀ y ∈ M.es, 0 ≤ y.f ∧ y.f < S ∧ 0 ≤ y.t ∧ y.t < S) := hF.2.2.2.1
  have HBB : Hid (b0 ≤ B) := hbB
  obtain ⟨xS, xa, en, xc, xra, xrn, xrc⟩ := x
  have hSS : xS = (S : Nat) := hx.s.trans hF.2.1
  subst hSS
  have e3 : en = M.es.length := hx.n
  have HEN : Hid (M.es.length = en) := e3.symm
  rw [← e3] at he
  clear e3 h1 h2 hx hF hlt hbB
  obtain ⟨v0, _, _, v3, v4, v5⟩ := HRW.out.cells
  simp only at v0
  go_enter Tryd.func20, Tryd.ntmps20
  go_upto_region 1 with (first | (refine wpList_make_bool rfl _ _ rfl w.heap.size S (Nat.le_refl _) rfl rfl (by omega) ?_; intro w4 hn4 hb4; have HR4 : Hid (RowB w4 w.heap.size (.slice (some ⟨w.heap.size, 0, none⟩) S S) (List.replicate S false)) := hn4; have HK4 : Hid (Below w.heap.size w w4) := hb4; clear hn4 hb4) | fail)
  obtain ⟨nb, hnb⟩ : ∃ nb, w.heap.size = nb := ⟨_, rfl⟩
  have HNB : Hid (w.heap.size = nb) := hnb
  rw [hnb] at HR4 ⊢
  clear hnb
  obtain ⟨cc, fz⟩ := HR4.out.cell (i := 0) (x := false) (by rw [List.getElem?_replicate, if_pos (by omega)])
  have HR5 : Hid (RowB (w4.setCell ⟨nb, 0, none⟩ (.bool true)) nb (.slice (some ⟨nb, 0, none⟩) S S) (bsOf (nextS (M.es.take 0) b g) S)) := by rw [← next_zero _ _ _ hS1]; exact HR4.out.put 0 true
  have HB5 : Hid (Below w.heap.size w (w4.setCell ⟨nb, 0, none⟩ (.bool true))) := HK4.out.setCell (p := ⟨nb, 0, none⟩) (by rw [HNB.out]; exact Nat.le_refl _) _
  clear HR4 HK4 v0 v3 v4 v5
  go_upto_region 2 with fail
  obtain ⟨w5, hw5⟩ : ∃ w5, w4.setCell ⟨nb, 0, none⟩ (.bool true) = w5 := ⟨_, rfl⟩
  rw [hw5] at HR5 HB5 ⊢
  clear hw5 cc fz
  go_wp2_with fail
  go_loopw [5] (fun i u => ∃ k : Nat, i = .int .i64 (k : Nat) ∧ k ≤ en ∧ Hid (Below w.heap.size w u) ∧ Hid (RowB u nb (.slice (some ⟨nb, 0, none⟩) S S) (bsOf (nextS (M.es.take k) b g) S))) (fun i _ => en - (intOf i).toNat)
  case atStart => exact ⟨0, rfl, Nat.zero_le _, HB5, HR5⟩
  case round =>
    clear HR5 HB5
    obtain ⟨k, rfl, hk, HK, HV⟩ := hrel
    obtain ⟨x0, x1, x2, x3, x4, x5⟩ := (HRW.out.later HK.out).cells
    simp only at x0 x1 x2
    by_cases hlt : k < en
    · have hlt' : (k : Int) < (en : Int) := by omega
      obtain ⟨y, hy⟩ : ∃ y, M.es[k]? = some y := ⟨_, List.getElem?_eq_getElem (by rw [HEN.out]; exact hlt)⟩
      obtain ⟨hf0, hf1, ht0, ht1⟩ := HEF.out y (List.mem_of_getElem? hy)
      obtain ⟨b', off, rfl, p0, p1, p2, p3, p4, p5, p6⟩ := (HMX.out.e.keep (w' := wr) (Y := fun _ => True) (fun _ _ _ => trivial) (fun k _ hk => HK.out.block k hk)).nth hy
      have HST : Hid (nextS (M.es.take (k + 1)) b g = if decide (y.k = 2) && g y.f.toNat && y.s b then Oct.ins (nextS (M.es.take k) b g) y.t.toNat else nextS (M.es.take k) b g) := next_step hy
      clear hy
      have kk : Below wr.heap.size wr (wr.alloc (.cells #[.int .i64 y.k, .int .i64 y.f, .int .i64 y.t, .int .u64 (Oct.word y.s 0 : Nat), .int .u64 (Oct.word y.s 1 : Nat), .int .u64 (Oct.word y.s 2 : Nat), .int .u64 (Oct.word y.s 3 : Nat)] 34)) := (Below.refl _ _).alloc (Nat.le_refl _) _
      have HK1 : Hid (Below w.heap.size w (wr.alloc (.cells #[.int .i64 y.k, .int .i64 y.f, .int .i64 y.t, .int .u64 (Oct.word y.s 0 : Nat), .int .u64 (Oct.word y.s 1 : Nat), .int .u64 (Oct.word y.s 2 : Nat), .int .u64 (Oct.word y.s 3 : Nat)] 34))) := below_step HK.out kk
      have HV1 : Hid (RowB (wr.alloc (.cells #[.int .i64 y.k, .int .i64 y.f, .int .i64 y.t, .int .u64 (Oct.word y.s 0 : Nat), .int .u64 (Oct.word y.s 1 : Nat), .int .u64 (Oct.word y.s 2 : Nat), .int .u64 (Oct.word y.s 3 : Nat)] 34)) nb (.slice (some ⟨nb, 0, none⟩) S S) (bsOf (nextS (M.es.take k) b g) S)) := HV.out.later kk
      have HG4 : Hid (EB (wr.alloc (.cells #[.int .i64 y.k, .int .i64 y.f, .int .i64 y.t, .int .u64 (Oct.word y.s 0 : Nat), .int .u64 (Oct.word y.s 1 : Nat), .int .u64 (Oct.word y.s 2 : Nat), .int .u64 (Oct.word y.s 3 : Nat)] 34)) wr.heap.size y) := heap_alloc_new wr _
      clear kk
      go_upto_region 6 with fail
      obtain ⟨w4, hw4⟩ : ∃ w4, wr.alloc (.cells #[.int .i64 y.k, .int .i64 y.f, .int .i64 y.t, .int .u64 (Oct.word y.s 0 : Nat), .int .u64 (Oct.word y.s 1 : Nat), .int .u64 (Oct.word y.s 2 : Nat), .int .u64 (Oct.word y.s 3 : Nat)] 34) = w4 := ⟨_, rfl⟩
      obtain ⟨G, hG⟩ : ∃ G, wr.heap.size = G := ⟨_, rfl⟩
      rw [hw4] at HK1 HV1 HG4 ⊢
      rw [hG] at HG4 ⊢
      clear hw4 hG p0 p1 p2 p3 p4 p5 p6 HK HV x0 x1 x2 x3 x4 x5
      obtain ⟨d0, d1, d2, d3, d4, d5, d6⟩ := HG4.out.cells
      have HHA : Hid (Calls Tryd.prog 43 #[.agg #[.int .u64 (Oct.word y.s 0 : Nat), .int .u64 (Oct.word y.s 1 : Nat), .int .u64 (Oct.word y.s 2 : Nat), .int .u64 (Oct.word y.s 3 : Nat)], .int .i64 (b : Nat)] w4 _) := rhas_any y.s b w4 hb
      go_wp2_with fail
      refine HHA.out.mono ?_
      rintro e5 w6 ⟨rfl, k6⟩
      have HK2 : Hid (Below w.heap.size w w6) := below_step HK1.out k6
      have HV2 : Hid (RowB w6 nb (.slice (some ⟨nb, 0, none⟩) S S) (bsOf (nextS (M.es.take k) b g) S)) := HV1.out.later k6
      have heb : EB w6 G y := (k6.block G (Array.getElem?_eq_some_iff.1 HG4.out).1).trans HG4.out
      clear k6 HHA HK1 HV1 HG4 d0 d1 d2 d3 d4 d5 d6
      obtain ⟨d0, d1, d2, d3, d4, d5, d6⟩ := heb.cells
      obtain ⟨x0, x1, x2, x3, x4, x5⟩ := (HRW.out.later HK2.out).cells
      obtain ⟨F, hFf⟩ : ∃ F : Nat, y.f = (F : Nat) := ⟨y.f.toNat, by omega⟩
      obtain ⟨T, hTt⟩ : ∃ T : Nat, y.t = (T : Nat) := ⟨y.t.toNat, by omega⟩
      rw [hFf, Int.toNat_natCast, hTt, Int.toNat_natCast] at HST
      rw [hFf] at d1 hf0 hf1
      rw [hTt] at d2 ht0 ht1
      have hFl : F < S := by omega
      have hTl : T < S := by omega
      obtain ⟨cF, _⟩ := (HRO.out.later HK2.out).cell (bsOf_at g hFl)
      obtain ⟨cT, fT⟩ := HV2.out.cell (bsOf_at (nextS (M.es.take k) b g) hTl)
      obtain ⟨q, hq⟩ : ∃ q : Bool, y.s b = q := ⟨_, rfl⟩
      obtain ⟨p, hp⟩ : ∃ p : Bool, g F = p := ⟨_, rfl⟩
      rw [hq] at HST ⊢
      rw [hp] at HST cF
      have HPU : Hid (∀ n, Below w.heap.size w ((w6.drewN n).setCell ⟨nb, T, none⟩ (.bool true)) ∧ RowB ((w6.drewN n).setCell ⟨nb, T, none⟩ (.bool true)) nb (.slice (some ⟨nb, 0, none⟩) S S) (bsOf (Oct.ins (nextS (M.es.take k) b g) T) S)) := fun n => by
        have hd : Below w6.heap.size w6 (w6.drewN n) := ⟨rfl, rfl, rfl, Nat.le_refl _, fun _ _ => rfl⟩
        rw [← bsOf_put _ hTl]
        exact ⟨(below_step HK2.out hd).setCell (p := ⟨nb, T, none⟩) (by rw [HNB.out]; exact Nat.le_refl _) _, (HV2.out.later hd).put T true⟩
      have HPN : Hid (∀ n, Below w.heap.size w (w6.drewN n) ∧ RowB (w6.drewN n) nb (.slice (some ⟨nb, 0, none⟩) S S) (bsOf (nextS (M.es.take k) b g) S)) := fun n => ⟨below_step HK2.out ⟨rfl, rfl, rfl, Nat.le_refl _, fun _ _ => rfl⟩, HV2.out.later ⟨rfl, rfl, rfl, Nat.le_refl _, fun _ _ => rfl⟩⟩
      obtain ⟨yk, hyk⟩ : ∃ yk, y.k = yk := ⟨_, rfl⟩
      rw [hyk] at d0 HST
      clear hq hp heb hFf hTt hyk HK2 HV2
      have hF' : (F : Int) < (S : Int) := by omega
      have hT' : (T : Int) < (S : Int) := by omega
      go_upto_region 7 with fail
      by_cases h2 : yk = 2
      · have h2a : (yk == 2) = true := by simp [h2]
        have h2b : decide (yk = 2) = true := by simp [h2]
        subst h2
        cases p with
        | false =>
          have HS2 : Hid (nextS (M.es.take (k + 1)) b g = nextS (M.es.take k) b g) := by have h := HST.out; simp at h; exact h
          clear HST
          go_quiet (fail)
          go_wp2_with fail
          go_roundw
          case rel => exact ⟨k + 1, by go_num, by omega, (HPN.out _).1, by rw [HS2.out]; exact (HPN.out _).2⟩
          case measure => simp [intOf]; omega
        | true =>
          cases q with
          | false =>
            have HS2 : Hid (nextS (M.es.take (k + 1)) b g = nextS (M.es.take k) b g) := by have h := HST.out; simp at h; exact h
            clear HST
            go_quiet (fail)
            go_wp2_with fail
            go_roundw
            case rel => exact ⟨k + 1, by go_num, by omega, (HPN.out _).1, by rw [HS2.out]; exact (HPN.out _).2⟩
            case measure => simp [intOf]; omega
          | true =>
            have HS2 : Hid (nextS (M.es.take (k + 1)) b g = Oct.ins (nextS (M.es.take k) b g) T) := by have h := HST.out; simp at h; exact h
            clear HST
            go_quiet (fail)
            go_wp2_with fail
            go_roundw
            case rel => exact ⟨k + 1, by go_num, by omega, (HPU.out _).1, by rw [HS2.out]; exact (HPU.out _).2⟩
            case measure => simp [intOf]; omega
      · have h2a : (yk == 2) = false := by simp [h2]
        have h2b : decide (yk = 2) = false := by simp [h2]
        have HS2 : Hid (nextS (M.es.take (k + 1)) b g = nextS (M.es.take k) b g) := by have h := HST.out; simp [h2] at h; exact h
        clear HST
        go_quiet (fail)
        go_wp2_with fail
        go_roundw
        case rel => exact ⟨k + 1, by go_num, by omega, (HPN.out _).1, by rw [HS2.out]; exact (HPN.out _).2⟩
        case measure => simp [intOf]; omega
    · have hlt' : ¬ (k : Int) < (en : Int) := by omega
      have HV2 : Hid (RowB wr nb (.slice (some ⟨nb, 0, none⟩) S S) (bsOf (nextS M.es b g) S)) := by
        have h := HV.out
        rw [List.take_of_length_le (by rw [HEN.out]; omega)] at h
        exact h
      have hNL : ∀ s, nextS M.es b g s = true → s < S := fun s hs => by
        simp only [nextS, Bool.or_eq_true, decide_eq_true_eq, List.any_eq_true, Bool.and_eq_true] at hs
        rcases hs with hs | ⟨y, hy, _, hs⟩
        · omega
        · have := HEF.out y hy; omega
      have hRWr := HRW.out.later HK.out
      have hMXr : MaAt (fun k => k ≠ B) wr M ⟨(S : Nat), xa, en, xc, xra, xrn, xrc⟩ := HMX.out.later HK.out
      have HSP : Hid (Calls Tryd.prog 39 #[.pointer (some ⟨B, 0, none⟩), .slice (some ⟨nb, 0, none⟩) S S, .bool false, .bool false] wr _) := rspread_any B nb S S wr (hMXr.keep (fun _ _ _ => trivial) (fun _ _ _ => rfl)) hRWr HV2.out (by omega) hS (by rw [HEN.out]; exact he) HEF.out false false
      have HNL : Hid (∀ s, nextS M.es b g s = true → s < S) := hNL
      clear hNL hRWr hMXr HV
      go_wp2_with fail
      refine HSP.out.mono ?_
      rintro e6 w6 ⟨ob, oc, ms, rfl, hcl, hrow, k6⟩
      have hml : ms.length = S := by rw [← hcl.sub.1, bsOf_len]
      have hcl2 := clo_isCl hcl (fun y hy => by have := HEF.out y hy; rw [bsOf_len]; omega)
      rw [bsS_of HNL.out] at hcl2
      have hms : ms = bsOf (bsS ms) S := by rw [← hml, bsOf_S]
      obtain ⟨g2, hg2⟩ : ∃ g2, g2 = bsS ms := ⟨_, rfl⟩
      rw [← hg2] at hms hcl2
      rw [hms] at hrow
      have HCL : Hid (IsCl M.es (kmov false false) (nextS M.es b g) g2) := hcl2
      have hb6 := below_step HK.out k6
      have hRW6 := HRW.out.later hb6
      have hBne : B ≠ ob := fun e => by subst e; exact absurd (TyB.ne hRW6.ty hrow.ty) (by decide)
      have f3 := hRW6.frozen 3
      have g3 : w6.cell? ⟨B, 3, none⟩ = some (.slice (some ⟨gb, 0, none⟩) S c) := hRW6.cells.2.2.2.1
      -- In
      have hRW7 : RWB (w6.setCell ⟨B, 3, none⟩ (.slice (some ⟨ob, 0, none⟩) S oc)) B ⟨(S : Nat), xa, en, xc, xra, xrn, xrc⟩ (.slice (some ⟨ob, 0, none⟩) S oc) r f := by unfold RWB; rw [heap_set hRW6]; rfl
      have HG7 : Hid (w.grownBy (w6.setCell ⟨B, 3, none⟩ (.slice (some ⟨ob, 0, none⟩) S oc)) (some B)) := gb_set (gb_below hb6) 3 _
      have HRO7 : Hid (RowB (w6.setCell ⟨B, 3, none⟩ (.slice (some ⟨ob, 0, none⟩) S oc)) wr.heap.size (.slice (some ⟨ob, 0, none⟩) S oc) (bsOf g2 S)) := hrow.same (Below.heap_setCell w6 ⟨B, 3, none⟩ _ ob (fun e => hBne e.symm))
      have HRW7 : Hid (RWB (w6.setCell ⟨B, 3, none⟩ (.slice (some ⟨ob, 0, none⟩) S oc)) B ⟨(S : Nat), xa, en, xc, xra, xrn, xrc⟩ (.slice (some ⟨ob, 0, none⟩) S oc) r f) := hRW7
      have HBN : Hid (B ≠ ob) := hBne
      have HWS : Hid (b0 ≤ wr.heap.size) := Nat.le_trans h0 HK.out.size
      have HG2 : Hid (∀ s, g2 s = true → s < S) := fun s hs => hcl2.lt HNL.out (fun y hy => by have := HEF.out y hy; omega) hs
      clear hcl hrow k6 hml hcl2 hms hg2 hb6 hRW6 hBne hRW7 HSP HK HV2 x0 x1 x2 x3 x4 x5
      go_upto_region 10 with fail
      obtain ⟨w7, hw7⟩ : ∃ w7, w6.setCell ⟨B, 3, none⟩ (.slice (some ⟨ob, 0, none⟩) S oc) = w7 := ⟨_, rfl⟩
      rw [hw7] at HG7 HRO7 HRW7 ⊢
      clear hw7 f3 g3
      obtain ⟨_, _, _, _, _, v5⟩ := HRW7.out.cells
      have f5 := HRW7.out.frozen 5
      -- First
      have HRW8 : Hid (RWB (w7.setCell ⟨B, 5, none⟩ (.bool false)) B ⟨(S : Nat), xa, en, xc, xra, xrn, xrc⟩ (.slice (some ⟨ob, 0, none⟩) S oc) r false) := by unfold RWB; rw [heap_set HRW7.out]; rfl
      have HG8 : Hid (w.grownBy (w7.setCell ⟨B, 5, none⟩ (.bool false)) (some B)) := gb_set HG7.out 5 _
      have HRO8 : Hid (RowB (w7.setCell ⟨B, 5, none⟩ (.bool false)) wr.heap.size (.slice (some ⟨ob, 0, none⟩) S oc) (bsOf g2 S)) := HRO7.out.same (Below.heap_setCell w7 ⟨B, 5, none⟩ _ ob (fun e => HBN.out e.symm))
      clear HRW7 HG7 HRO7
      go_upto_region 11 with fail
      obtain ⟨w8, hw8⟩ : ∃ w8, w7.setCell ⟨B, 5, none⟩ (.bool false) = w8 := ⟨_, rfl⟩
      rw [hw8] at HG8 HRO8 HRW8 ⊢
      clear hw8 v5 f5
      have HWD : Hid (∀ u, Below w8.heap.size w8 u → Calls Tryd.prog 40 #[.pointer (some ⟨B, 0, none⟩), .slice (some ⟨ob, 0, none⟩) S oc] u fun e w' => e = .returned (.int .u32 (rulesG M.rs g2 : Nat)) ∧ w' = u) := fun u hu =>
        rwords_any B ob S oc u (HMX.out.keep (fun _ _ _ => trivial) (fun k hk hl => (gb_later HG8.out hu).block k hl (fun e => hk (Option.some.inj e)))) (HRW8.out.later hu) (HRO8.out.later hu) HF.out.2.2.1.symm hS H32.out
      obtain ⟨ρ, hρ⟩ : ∃ ρ, rulesG M.rs g2 = ρ := ⟨_, rfl⟩
      have hρl : ρ < 4294967296 := by rw [← hρ]; exact rulesG_lt H32.out
      rw [hρ] at HWD
      have HRHO : Hid (rulesG M.rs g2 = ρ) := hρ
      have hor : bits .or .u32 (r : Nat) (ρ : Nat) = ((r ||| ρ : Nat) : Int) := u32_or_nat r ρ hr hρl
      have HEND : Hid (∀ u, Below w8.heap.size w8 u → w.grownBy (u.setCell ⟨B, 4, none⟩ (.int .u32 ((r ||| ρ : Nat) : Int))) (some B) ∧ RkAt b0 (u.setCell ⟨B, 4, none⟩ (.int .u32 ((r ||| ρ : Nat) : Int))) B ⟨(S : Nat), xa, en, xc, xra, xrn, xrc⟩ S g2 (r ||| rulesG M.rs g2) false) := fun u hu => by
        refine ⟨gb_set (gb_later HG8.out hu) 4 _, ob, oc, HBB.out, ?_, ?_⟩
        · rw [HRHO.out]; unfold RWB; rw [heap_set (HRW8.out.later hu)]; rfl
        · exact rowB_low ((HRO8.out.later hu).same (Below.heap_setCell u ⟨B, 4, none⟩ _ ob (fun e => HBN.out e.symm))) HWS.out
      have HCE : Hid (∀ u, Below w8.heap.size w8 u → u.cell? ⟨B, 3, none⟩ = some (.slice (some ⟨ob, 0, none⟩) S oc) ∧ u.cell? ⟨B, 4, none⟩ = some (.int .u32 (r : Nat)) ∧ u.frozen? ⟨B, 4, none⟩ = false) := fun u hu => ⟨(HRW8.out.later hu).cells.2.2.2.1, (HRW8.out.later hu).cells.2.2.2.2.1, (HRW8.out.later hu).frozen 4⟩
      obtain ⟨v3, v4, f4⟩ := HCE.out w8 (Below.refl _ _)
      clear hρ HG8 HRO8 HRW8
      go_region_with (go_at_call 40; refine (HWD.out _ ((Below.refl _ _).drew)).mono ?_; rintro e u ⟨rfl, hu⟩; have HU : Hid (Below w8.heap.size w8 u) := (by rw [hu]; exact (Below.refl _ w8).drew); obtain ⟨c3, c4, f4'⟩ := HCE.out u HU.out; clear hu)
      all_goals
        go_wp2
        go_end0
        obtain ⟨h1, h2⟩ := HEND.out _ HU.out
        exact ⟨rfl, h1, g2, HCL.out, h2⟩
end Go.Proofs.YtmjnobdlgbojoaaDoor
