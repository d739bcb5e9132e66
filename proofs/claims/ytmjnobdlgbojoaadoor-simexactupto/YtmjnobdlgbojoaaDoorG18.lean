/- heronref08's Line; heronlaw08's sameInts. -/
import Derived.Test.YtmjnobdlgbojoaaDoorG17
import Derived.Test.YtmjnobdlgbojoaaDoorG10
import Derived.Test.YtmjnobdlgbojoaaDoorG07
import Derived.Deep.AppendSrc
namespace Go.Proofs.YtmjnobdlgbojoaaDoor
open Go.RowKit
attribute [local go_sem ↓] Go.wp_at_zero Go.wp_at_succ

set_option maxRecDepth 8000 in
set_option maxHeartbeats 4000000 in
theorem rline_any (M : Ma) (x : Nf) (s : ByteArray) (w : World) (hs : s.size ≤ maxLen) (hx : MaAt (fun _ => True) w M x) (he : M.es.length ≤ 1048576) (hr : M.rs.length ≤ 1048576) (h32 : ∀ z ∈ M.rs, z < 4294967296) : Calls Tryd.prog 14 #[x.val, .string s] w (LinePost w M s) := by
  unfold maxLen at hs
  have kk : Below w.heap.size w (w.alloc (.cells #[.int .i64 x.S, .slice x.ea x.en x.ec, .slice x.ra x.rn x.rc] 25)) := (Below.refl _ _).alloc (Nat.le_refl _) _
  have HNX : Hid (NFB (w.alloc (.cells #[.int .i64 x.S, .slice x.ea x.en x.ec, .slice x.ra x.rn x.rc] 25)) w.heap.size x) := nfb_new w x
  have HB : Hid (Below w.heap.size w (w.alloc (.cells #[.int .i64 x.S, .slice x.ea x.en x.ec, .slice x.ra x.rn x.rc] 25))) := kk
  have HC : Hid (Calls Tryd.prog 17 #[x.val] (w.alloc (.cells #[.int .i64 x.S, .slice x.ea x.en x.ec, .slice x.ra x.rn x.rc] 25)) (RBegPost (w.alloc (.cells #[.int .i64 x.S, .slice x.ea x.en x.ec, .slice x.ra x.rn x.rc] 25)) M x)) := rbegin_any M x _ (hx.later kk) he hr h32
  obtain ⟨w1, hw1⟩ : ∃ w1, w.alloc (.cells #[.int .i64 x.S, .slice x.ea x.en x.ec, .slice x.ra x.rn x.rc] 25) = w1 := ⟨_, rfl⟩
  rw [hw1] at HNX HB HC
  obtain ⟨A, hA⟩ : ∃ A, w.heap.size = A := ⟨_, rfl⟩
  rw [hA] at HNX
  have HW1 : Hid (w.alloc (.cells #[.int .i64 x.S, .slice x.ea x.en x.ec, .slice x.ra x.rn x.rc] 25) = w1) := hw1
  have HAA : Hid (w.heap.size = A) := hA
  have HM0 : Hid (MaAt (fun _ => True) w M x) := hx
  have H32 : Hid (∀ z ∈ M.rs, z < 4294967296) := h32
  clear kk hx hw1 hA h32
  obtain ⟨xS, xa, en, xc, xra, xrn, xrc⟩ := x
  unfold Nf.val at HC
  unfold Nf.val
  simp only at HC HW1 ⊢
  obtain ⟨b0, b1, b2⟩ := HNX.out.cells
  simp only at b0 b1 b2
  go_enter Tryd.func14, Tryd.ntmps14
  go_upto_region 1 with fail
  rw [HW1.out, HAA.out]
  clear HW1
  go_wp2_with fail
  refine HC.out.mono ?_
  rintro e w2 ⟨k2, hpost⟩
  have HB2 : Hid (Below w.heap.size w w2) := below_step HB.out k2
  have hw1s : w.heap.size ≤ w1.heap.size := HB.out.size
  clear HC HNX b0 b1 b2 k2
  rcases hpost with ⟨hok, rfl⟩ | ⟨hok, Wb, g, r, rfl, hm, hwk⟩
  · have HOK : Hid (rightOf M = false) := hok
    clear hok
    go_wp2
    go_ret2
    exact ⟨HB2.out, 0, by rw [HOK.out]; rfl, by rw [HOK.out]; simp⟩
  · have HOK : Hid (rightOf M = true) := hok
    have HF : Hid (Fits M M.rs.length) := fits_of hok H32.out
    have HWK : Hid (RkAt w1.heap.size w2 Wb ⟨xS, xa, en, xc, xra, xrn, xrc⟩ M.rs.length g r true) := hwk
    have HMM : Hid (Mom M [] g r) := hm
    have hWlo : w.heap.size ≤ Wb := by obtain ⟨_, _, h, _⟩ := hwk; omega
    have HW12 : Hid (w.heap.size ≤ w1.heap.size) := HB.out.size
    clear hok hm hwk HB
    go_wp2_with fail
    go_loopw [8] (fun i u => ∃ j : Nat, i = .int .i64 (j : Nat) ∧ j ≤ s.size ∧ Hid (∃ g r, Mom M ((bts s).take j) g r ∧ RkAt w1.heap.size u Wb ⟨xS, xa, en, xc, xra, xrn, xrc⟩ M.rs.length g r (decide (j = 0)) ∧ Below w.heap.size w u)) (fun i _ => s.size - (intOf i).toNat)
    case atStart => exact ⟨0, rfl, Nat.zero_le _, g, r, HMM.out, HWK.out, HB2.out⟩
    case round =>
      obtain ⟨j, rfl, hjn, HJ⟩ := hrel
      obtain ⟨g1, r1, hm1, hwk1, hb1⟩ := HJ.out
      have hMr : MaAt (fun k => k ≠ Wb) wr M ⟨xS, xa, en, xc, xra, xrn, xrc⟩ := HM0.out.keep (fun k _ hl => by omega) (fun k _ hl => hb1.block k hl)
      have hw1r : w1.heap.size ≤ wr.heap.size := by have := HW12.out; have := hwk1.lt; obtain ⟨_, _, h, _⟩ := hwk1; omega
      have hr1 := hm1.r32 HF.out
      have hlt1 := hm1.lt HF.out
      by_cases hlt : j < s.size
      · have hlt' : (j : Int) < (s.size : Int) := by omega
        have hb256 : s[j].toNat < 256 := UInt8.toNat_lt _
        have HBY : Hid (Calls Tryd.prog 20 #[.pointer (some ⟨Wb, 0, none⟩), .int .u8 (s[j].toNat : Nat)] wr _) := rbyte_any Wb s[j].toNat wr hwk1 hMr HF.out he hr hr1 hlt1 hb256 hw1r
        have HTK : Hid ((bts s).take (j + 1) = (bts s).take j ++ [s[j].toNat]) := bts_take s hlt
        have HM1 : Hid (Mom M ((bts s).take j) g1 r1) := hm1
        have HB1 : Hid (Below w.heap.size w wr) := hb1
        clear HJ hm1 hwk1 hb1 hlt1 hr1 hMr hw1r
        go_wp2_with fail
        refine HBY.out.mono ?_
        rintro e w3 ⟨rfl, hg3, g2, hcl, hwk3⟩
        have HJ2 : Hid (∃ g r, Mom M ((bts s).take (j + 1)) g r ∧ RkAt w1.heap.size w3 Wb ⟨xS, xa, en, xc, xra, xrn, xrc⟩ M.rs.length g r (decide (j + 1 = 0)) ∧ Below w.heap.size w w3) := by
          refine ⟨g2, r1 ||| rulesG M.rs g2, ?_, ?_, HB1.out.grown hg3 HB1.out.size (fun k e => by cases e; exact hWlo)⟩
          · rw [HTK.out]; exact .byte _ _ _ _ _ HM1.out hcl
          · rw [decide_eq_false (by omega)]; exact hwk3
        clear hg3 hcl hwk3 HBY
        go_wp2
        go_roundw
        case rel => exact ⟨j + 1, by go_num, by omega, HJ2⟩
        case measure => simp [intOf]; omega
      · have hlt' : ¬ (j : Int) < (s.size : Int) := by omega
        have HEND : Hid (Calls Tryd.prog 37 #[.pointer (some ⟨Wb, 0, none⟩)] wr _) := rend_any Wb wr hwk1 (hMr.keep (fun _ _ _ => trivial) (fun _ _ _ => rfl)) HF.out he hr hr1 hlt1
        have htk : (bts s).take j = bts s := List.take_of_length_le (by rw [bts_length]; omega)
        have hbg : decide (j = 0) = decide (bts s = []) := by
          have e : j = (bts s).length := by rw [bts_length]; omega
          rw [e]
          cases hb : bts s <;> simp
        rw [htk] at hm1
        rw [hbg] at HEND
        have HM1 : Hid (Mom M (bts s) g1 r1) := hm1
        have HB1 : Hid (Below w.heap.size w wr) := hb1
        clear HJ hm1 hwk1 hb1 hlt1 hr1 hMr hw1r htk hbg
        go_wp2_with fail
        refine HEND.out.mono ?_
        rintro e w3 ⟨v, rfl, hen, k3⟩
        have HL : Hid (LineOf M (bts s) v) := ⟨g1, r1, HM1.out, hen⟩
        have HB3 : Hid (Below w.heap.size w w3) := below_step HB1.out k3
        clear hen k3 HEND
        go_wp2
        go_ret2
        exact ⟨HB3.out, v, by rw [HOK.out]; rfl, by rw [HOK.out]; exact HL.out⟩
/-- numbers that lie somewhere -/
def IntsAt (w : World) (a : Option Addr) (l : List Nat) : Prop := l = [] ∨ ∃ b, a = some ⟨b, 0, none⟩ ∧ ∀ j x, l[j]? = some x → w.cell? ⟨b, j, none⟩ = some (.int .i64 (x : Nat))
theorem IntsAt.nth {w : World} {a : Option Addr} {l : List Nat} (h : IntsAt w a l) {j x : Nat} (hx : l[j]? = some x) : ∃ b, a = some ⟨b, 0, none⟩ ∧ w.cell? ⟨b, j, none⟩ = some (.int .i64 (x : Nat)) := by
  rcases h with h | ⟨b, h, hc⟩
  · subst h; simp at hx
  · exact ⟨b, h, hc j x hx⟩
set_option maxRecDepth 8000 in
set_option maxHeartbeats 8000000 in
theorem sameInts_any (a a' : Option Addr) (c c' : Nat) (l : List Nat) (w : World) (h : IntsAt w a l) (h' : IntsAt w a' l) (hl : l.length ≤ 1048576) : Calls Tryd.prog 42 #[.slice a l.length c, .slice a' l.length c'] w fun e w' => e = .returned (.bool true) ∧ ∃ m, w' = w.drewN m := by
  have HA : Hid (IntsAt w a l) := h
  have HB : Hid (IntsAt w a' l) := h'
  obtain ⟨n, hn⟩ : ∃ n, n = l.length := ⟨_, rfl⟩
  rw [← hn] at hl ⊢
  have HN : Hid (n = l.length) := hn
  clear h h' hn
  go_enter Tryd.func42, Tryd.ntmps42
  go_wp2_with fail
  go_loopw [5] (fun i u => ∃ k : Nat, i = .int .i64 (k : Nat) ∧ k ≤ n ∧ ∃ m, u = w.drewN m) (fun i _ => n - (intOf i).toNat)
  case atStart => exact ⟨0, rfl, Nat.zero_le _, 0, rfl⟩
  case round =>
    obtain ⟨k, rfl, hk, m, rfl⟩ := hrel
    by_cases hlt : k < n
    · have hlt' : (k : Int) < (n : Int) := by omega
      obtain ⟨y, hy⟩ : ∃ y, l[k]? = some y := ⟨_, List.getElem?_eq_getElem (by rw [← HN.out]; exact hlt)⟩
      obtain ⟨b, rfl, cb⟩ := HA.out.nth hy
      obtain ⟨b', rfl, cb'⟩ := HB.out.nth hy
      have d1 : (w.drewN m).cell? ⟨b, k, none⟩ = some (.int .i64 (y : Nat)) := cb
      have d2 : (w.drewN m).cell? ⟨b', k, none⟩ = some (.int .i64 (y : Nat)) := cb'
      clear hy
      go_upto_region 6 with fail
      go_quiet (fail)
      go_wp2_with fail
      go_roundw
      case rel => exact ⟨k + 1, by go_num, by omega, m + nq, by simp⟩
      case measure => simp [intOf]; omega
    · have hlt' : ¬ (k : Int) < (n : Int) := by omega
      go_wp2
      go_ret
      exact ⟨rfl, m, rfl⟩
end Go.Proofs.YtmjnobdlgbojoaaDoor

/- heronlaw08's kept. -/
namespace Go.Proofs.YtmjnobdlgbojoaaDoor
open Go.RowKit
attribute [local go_sem ↓] Go.wp_at_zero Go.wp_at_succ

def markE : Eg := ⟨77, 0, 0, Oct.none⟩
theorem EAt.front {X : Nat → Prop} {w : World} {a : Option Addr} {es fs : List Eg} (h : EAt X w a (es ++ fs)) : EAt X w a es := by
  rcases h with h | ⟨b, off, ha, hX, hc⟩
  · exact Or.inl (List.append_eq_nil_iff.1 h).1
  · refine Or.inr ⟨b, off, ha, hX, fun j v hj => hc j v ?_⟩
    rw [flatE_append, List.getElem?_append_left (List.getElem?_eq_some_iff.1 hj).1]
    exact hj
theorem UAt.front {X : Nat → Prop} {w : World} {a : Option Addr} {rs ts : List Nat} (h : UAt X w a (rs ++ ts)) : UAt X w a rs := by
  rcases h with h | ⟨b, off, ha, hX, hc⟩
  · exact Or.inl (List.append_eq_nil_iff.1 h).1
  · refine Or.inr ⟨b, off, ha, hX, fun j v hj => hc j v ?_⟩
    rw [List.getElem?_append_left (List.getElem?_eq_some_iff.1 hj).1]
    exact hj
/-- A COPY OF A MACHINE, with a mark behind each list. -/
structure Cop (X : Nat → Prop) (w : World) (M : Ma) (y : Nf) : Prop where
  s : y.S = M.S
  n : y.en = M.es.length
  r : y.rn = M.rs.length
  e : EAt X w y.ea (M.es ++ [markE])
  u : UAt X w y.ra (M.rs ++ [77])
  ec : M.es.length + 1 ≤ y.ec ∧ y.ec ≤ maxLen
  rc : M.rs.length + 1 ≤ y.rc ∧ y.rc ≤ maxLen
theorem Cop.ma {X : Nat → Prop} {w : World} {M : Ma} {y : Nf} (h : Cop X w M y) : MaAt X w M y := ⟨h.s, h.n, h.r, h.e.front, h.u.front⟩
theorem Cop.keep {X Y : Nat → Prop} {w w' : World} {M : Ma} {x : Nf} (h : Cop X w M x) (hXY : ∀ b, X b → b < w.heap.size → Y b) (hk : ∀ b, X b → b < w.heap.size → w'.heap[b]? = w.heap[b]?) : Cop Y w' M x :=
  ⟨h.s, h.n, h.r, h.e.keep hXY hk, h.u.keep hXY hk, h.ec, h.rc⟩
theorem Cop.later {X : Nat → Prop} {w w' : World} {M : Ma} {x : Nf} (h : Cop X w M x) (hb : Below w.heap.size w w') : Cop X w' M x := h.keep (fun _ h _ => h) (fun b _ hlt => hb.block b hlt)
set_option maxRecDepth 8000 in
set_option maxHeartbeats 16000000 in
theorem kept_any {X Y : Nat → Prop} {M : Ma} {x y : Nf} (w : World) (hx : Cop X w M x) (hy : MaAt Y w M y) (he : M.es.length ≤ 1048576) (hr : M.rs.length ≤ 1048576) : Calls Tryd.prog 16 #[x.val, y.val] w fun e w' => e = .returned (.bool true) ∧ Below w.heap.size w w' := by
  have kk : Below w.heap.size w ((w.alloc (.cells #[.int .i64 x.S, .slice x.ea x.en x.ec, .slice x.ra x.rn x.rc] 25)).alloc (.cells #[.int .i64 y.S, .slice y.ea y.en y.ec, .slice y.ra y.rn y.rc] 25)) := ((Below.refl _ _).alloc (Nat.le_refl _) _).alloc (by simp) _
  have HNX : Hid (NFB ((w.alloc (.cells #[.int .i64 x.S, .slice x.ea x.en x.ec, .slice x.ra x.rn x.rc] 25)).alloc (.cells #[.int .i64 y.S, .slice y.ea y.en y.ec, .slice y.ra y.rn y.rc] 25)) w.heap.size x) := (nfb_new w x).later ((Below.refl _ _).alloc (Nat.le_refl _) _)
  have HNY : Hid (NFB ((w.alloc (.cells #[.int .i64 x.S, .slice x.ea x.en x.ec, .slice x.ra x.rn x.rc] 25)).alloc (.cells #[.int .i64 y.S, .slice y.ea y.en y.ec, .slice y.ra y.rn y.rc] 25)) (w.heap.size + 1) y) := by
    have h1 := nfb_new (w.alloc (.cells #[.int .i64 x.S, .slice x.ea x.en x.ec, .slice x.ra x.rn x.rc] 25)) y
    rw [show (w.alloc (.cells #[.int .i64 x.S, .slice x.ea x.en x.ec, .slice x.ra x.rn x.rc] 25)).heap.size = w.heap.size + 1 by simp] at h1
    exact h1
  have HB : Hid (Below w.heap.size w ((w.alloc (.cells #[.int .i64 x.S, .slice x.ea x.en x.ec, .slice x.ra x.rn x.rc] 25)).alloc (.cells #[.int .i64 y.S, .slice y.ea y.en y.ec, .slice y.ra y.rn y.rc] 25))) := kk
  obtain ⟨w2, hw2⟩ : ∃ w2, ((w.alloc (.cells #[.int .i64 x.S, .slice x.ea x.en x.ec, .slice x.ra x.rn x.rc] 25)).alloc (.cells #[.int .i64 y.S, .slice y.ea y.en y.ec, .slice y.ra y.rn y.rc] 25)) = w2 := ⟨_, rfl⟩
  rw [hw2] at HNX HNY HB
  obtain ⟨A, hA⟩ : ∃ A, w.heap.size = A := ⟨_, rfl⟩
  obtain ⟨C, hC⟩ : ∃ C, w.heap.size + 1 = C := ⟨_, rfl⟩
  rw [hA] at HNX
  rw [hC] at HNY
  have HW2 : Hid (((w.alloc (.cells #[.int .i64 x.S, .slice x.ea x.en x.ec, .slice x.ra x.rn x.rc] 25)).alloc (.cells #[.int .i64 y.S, .slice y.ea y.en y.ec, .slice y.ra y.rn y.rc] 25)) = w2) := hw2
  have HAA : Hid (w.heap.size = A) := hA
  have HCC : Hid (w.heap.size + 1 = C) := hC
  have HX : Hid (Cop X w M x) := hx
  have HY : Hid (MaAt Y w M y) := hy
  clear hw2 hA hC kk hx hy
  obtain ⟨xS, xa, xn, xc, xra, xrn, xrc⟩ := x
  obtain ⟨yS, ya, yn, yc, yra, yrn, yrc⟩ := y
  have e1 : xS = M.S := HX.out.s
  have e2 : yS = M.S := HY.out.s
  have e3 : xn = M.es.length := HX.out.n
  have e4 : yn = M.es.length := HY.out.n
  have e5 : xrn = M.rs.length := HX.out.r
  have e6 : yrn = M.rs.length := HY.out.r
  subst e1 e2 e3 e4 e5 e6
  obtain ⟨n, hn⟩ : ∃ n, M.es.length = n := ⟨_, rfl⟩
  obtain ⟨rn, hrn⟩ : ∃ rn, M.rs.length = rn := ⟨_, rfl⟩
  have HE : Hid (EAt X w xa (M.es ++ [markE]) ∧ EAt Y w ya M.es) := ⟨HX.out.e, HY.out.e⟩
  have HCC1 := HX.out.ec
  have HCC2 := HX.out.rc
  simp only [maxLen] at HCC1 HCC2
  rw [hn] at HCC1
  rw [hrn] at HCC2
  obtain ⟨hc1, _⟩ := HCC1
  obtain ⟨hc2, _⟩ := HCC2
  have HU : Hid (UAt X w xra (M.rs ++ [77]) ∧ UAt Y w yra M.rs) := ⟨HX.out.u, HY.out.u⟩
  have HN : Hid (M.es.length = n ∧ M.rs.length = rn) := ⟨hn, hrn⟩
  rw [hn] at HNX HNY HW2 he
  rw [hrn] at HNX HNY HW2 hr
  unfold Nf.val
  simp only at HW2 ⊢
  rw [hn, hrn]
  clear hn hrn HX HY
  obtain ⟨S, hS⟩ : ∃ S, M.S = S := ⟨_, rfl⟩
  rw [hS] at HNX HNY HW2 ⊢
  clear hS
  have hme : (M.es ++ [markE])[n]? = some markE := by rw [List.getElem?_append_right (by rw [HN.out.1]; exact Nat.le_refl _), HN.out.1, Nat.sub_self]; rfl
  have hmu : (M.rs ++ [77])[rn]? = some 77 := by rw [List.getElem?_append_right (by rw [HN.out.2]; exact Nat.le_refl _), HN.out.2, Nat.sub_self]; rfl
  obtain ⟨b, off, hxa, m0, _⟩ := HE.out.1.nth hme
  subst hxa
  obtain ⟨rb, roff, hxr, n0⟩ := HU.out.1.nth hmu
  subst hxr
  have HME : Hid (w.cell? ⟨b, off + n * 7, none⟩ = some (.int .i64 77) ∧ w.cell? ⟨rb, roff + rn, none⟩ = some (.int .u32 77)) := ⟨m0, n0⟩
  have hn1 : (n : Int) + 1 ≤ (xc : Int) := by omega
  have hn2 : (rn : Int) + 1 ≤ (xrc : Int) := by omega
  clear hme hmu m0 n0
  go_enter Tryd.func16, Tryd.ntmps16
  go_upto_region 1 with fail
  rw [HW2.out, HCC.out, HAA.out]
  clear HW2
  obtain ⟨x0, x1, x2⟩ := HNX.out.cells
  obtain ⟨y0, y1, y2⟩ := HNY.out.cells
  simp only at x0 x1 x2 y0 y1 y2
  go_wp2_with fail
  clear x0 x1 x2 y0 y1 y2
  go_loopw [7] (fun i u => ∃ j : Nat, i = .int .i64 (j : Nat) ∧ j ≤ n ∧ Hid (Below w2.heap.size w2 u)) (fun i _ => n - (intOf i).toNat)
  case atStart => exact ⟨0, rfl, Nat.zero_le _, Below.refl _ _⟩
  case round =>
    obtain ⟨j, rfl, hjn, HBj⟩ := hrel
    obtain ⟨x0, x1, x2⟩ := (HNX.out.later HBj.out).cells
    obtain ⟨y0, y1, y2⟩ := (HNY.out.later HBj.out).cells
    simp only at x0 x1 x2 y0 y1 y2
    by_cases hlt : j < n
    · have hlt' : (j : Int) < (n : Int) := by omega
      obtain ⟨e, hee⟩ : ∃ e, M.es[j]? = some e := ⟨_, List.getElem?_eq_getElem (by rw [HN.out.1]; exact hlt)⟩
      have HBw : Hid (Below w.heap.size w wr) := below_step HB.out HBj.out
      have HE2 := HE.out
      have hee2 : (M.es ++ [markE])[j]? = some e := by rw [List.getElem?_append_left (by rw [HN.out.1]; exact hlt)]; exact hee
      obtain ⟨b2, off2, hbe, p0, p1, p2, p3, p4, p5, p6⟩ := (HE2.1.keep (w' := wr) (fun _ h _ => h) (fun k _ hk => HBw.out.block k hk)).nth hee2
      cases hbe
      have hlt2 : (j : Int) < (n : Int) + 1 := by omega
      obtain ⟨b', off', rfl, q0, q1, q2, q3, q4, q5, q6⟩ := (HE2.2.keep (w' := wr) (fun _ h _ => h) (fun k _ hk => HBw.out.block k hk)).nth hee
      have heq : ∀ u : World, (Op.equalIn 10000 34 (.agg #[.int .i64 e.k, .int .i64 e.f, .int .i64 e.t, .int .u64 (Oct.word e.s 0 : Nat), .int .u64 (Oct.word e.s 1 : Nat), .int .u64 (Oct.word e.s 2 : Nat), .int .u64 (Oct.word e.s 3 : Nat)]) (.agg #[.int .i64 e.k, .int .i64 e.f, .int .i64 e.t, .int .u64 (Oct.word e.s 0 : Nat), .int .u64 (Oct.word e.s 1 : Nat), .int .u64 (Oct.word e.s 2 : Nat), .int .u64 (Oct.word e.s 3 : Nat)])).run Tryd.prog u = .ok true u := fun u => eq7_same _ _ _ _ _ _ _ u
      have HBd : Hid (Below w2.heap.size w2 wr.drew) := HBj.out.drew
      clear hee hee2 HE2
      go_upto_region 6 with fail
      go_region
      all_goals
        go_wp2
        go_roundw
        case rel => exact ⟨j + 1, by go_num, by omega, HBd⟩
        case measure => simp [intOf]; omega
    · have hlt' : ¬ (j : Int) < (n : Int) := by omega
      go_wp2_with fail
      clear x0 x1 x2 y0 y1 y2 hlt hlt' hjn
      obtain ⟨w3, hw3⟩ : ∃ w3 : World, w3 = wr := ⟨_, rfl⟩
      subst hw3
      go_loopw [8] (fun i u => ∃ j : Nat, i = .int .i64 (j : Nat) ∧ j ≤ rn ∧ Hid (Below w2.heap.size w2 u)) (fun i _ => rn - (intOf i).toNat)
      case atStart => exact ⟨0, rfl, Nat.zero_le _, HBj⟩
      case round =>
        clear HBj
        obtain ⟨j, rfl, hjn, HBj⟩ := hrel
        obtain ⟨x0, x1, x2⟩ := (HNX.out.later HBj.out).cells
        obtain ⟨y0, y1, y2⟩ := (HNY.out.later HBj.out).cells
        simp only at x0 x1 x2 y0 y1 y2
        by_cases hlt : j < rn
        · have hlt' : (j : Int) < (rn : Int) := by omega
          obtain ⟨e, hee⟩ : ∃ e, M.rs[j]? = some e := ⟨_, List.getElem?_eq_getElem (by rw [HN.out.2]; exact hlt)⟩
          have HBw : Hid (Below w.heap.size w wr) := below_step HB.out HBj.out
          have HU2 := HU.out
          have hee2 : (M.rs ++ [77])[j]? = some e := by rw [List.getElem?_append_left (by rw [HN.out.2]; exact hlt)]; exact hee
          obtain ⟨b2, off2, hbe, p0⟩ := (HU2.1.keep (w' := wr) (fun _ h _ => h) (fun k _ hk => HBw.out.block k hk)).nth hee2
          cases hbe
          have hlt2 : (j : Int) < (rn : Int) + 1 := by omega
          obtain ⟨b', off', rfl, q0⟩ := (HU2.2.keep (w' := wr) (fun _ h _ => h) (fun k _ hk => HBw.out.block k hk)).nth hee
          have HBd : Hid (Below w2.heap.size w2 wr.drew) := HBj.out.drew
          clear hee hee2 HU2
          go_upto_region 11 with fail
          go_region
          all_goals
            go_wp2
            go_roundw
            case rel => exact ⟨j + 1, by go_num, by omega, HBd⟩
            case measure => simp [intOf]; omega
        · have hlt' : ¬ (j : Int) < (rn : Int) := by omega
          have HBw : Hid (Below w.heap.size w wr) := below_step HB.out HBj.out
          have m0 := (World.cell?_of_block (a := ⟨b, off + n * 7, none⟩) (HBw.out.block b (lt_of_cell HME.out.1))).trans HME.out.1
          have n0 := (World.cell?_of_block (a := ⟨rb, roff + rn, none⟩) (HBw.out.block rb (lt_of_cell HME.out.2))).trans HME.out.2
          have hl1 : (n : Int) < (n : Int) + 1 := by omega
          have hl2 : (rn : Int) < (rn : Int) + 1 := by omega
          go_wp2
          go_ret
          exact ⟨rfl, HBw.out⟩
end Go.Proofs.YtmjnobdlgbojoaaDoor

/- heronlaw08's spoil. -/
namespace Go.Proofs.YtmjnobdlgbojoaaDoor
open Go.RowKit
attribute [local go_sem ↓] Go.wp_at_zero Go.wp_at_succ

/-- a block of the call's own, as great as this -/
def Room (w : World) (g t n : Nat) : Prop := ∃ cur, w.heap[g]? = some (.cells cur t (0, 0)) ∧ n ≤ cur.size
theorem Room.cell {w : World} {g t n i : Nat} (h : Room w g t n) (hi : i < n) : (∃ v, w.cell? ⟨g, i, none⟩ = some v) ∧ w.frozen? ⟨g, i, none⟩ = false := by
  obtain ⟨cur, hg, hn⟩ := h
  refine ⟨⟨cur[i]'(by omega), ?_⟩, by simp [World.frozen?, hg]⟩
  have : cur[i]? = some (cur[i]'(by omega)) := Array.getElem?_eq_getElem (by omega)
  simp [World.cell?, hg, this]
theorem Room.set {w : World} {g t n : Nat} (h : Room w g t n) (i : Nat) (v : Value) : Room (w.setCell ⟨g, i, none⟩ v) g t n := by
  obtain ⟨cur, hg, hn⟩ := h
  exact ⟨_, heap_set hg i v, by simpa using hn⟩
theorem Room.keep {w w' : World} {g t n : Nat} (h : Room w g t n) (e : w'.heap[g]? = w.heap[g]?) : Room w' g t n := by
  obtain ⟨cur, hg, hn⟩ := h
  exact ⟨cur, e.trans hg, hn⟩
theorem Room.lt {w : World} {g t n : Nat} (h : Room w g t n) : g < w.heap.size := by
  obtain ⟨cur, hg, hn⟩ := h
  exact (Array.getElem?_eq_some_iff.1 hg).1
theorem Room.ty {w : World} {g t n : Nat} (h : Room w g t n) : TyB w t g := by
  obtain ⟨cur, hg, hn⟩ := h
  exact ⟨_, _, hg⟩
theorem Fr2.setB (A B : Nat) (w : World) (j : Nat) (v : Value) : Fr2 A B w (w.setCell ⟨B, j, none⟩ v) := ⟨rfl, rfl, rfl, by simp, fun k _ _ h4 => Below.heap_setCell w ⟨B, j, none⟩ v k h4⟩
def put7 (w : World) (g o : Nat) : World := ((((((w.setCell ⟨g, o, none⟩ (.int .i64 1)).setCell ⟨g, o + 1, none⟩ (.int .i64 0)).setCell ⟨g, o + 2, none⟩ (.int .i64 0)).setCell ⟨g, o + 3, none⟩ (.int .u64 0)).setCell ⟨g, o + 4, none⟩ (.int .u64 0)).setCell ⟨g, o + 5, none⟩ (.int .u64 0)).setCell ⟨g, o + 6, none⟩ (.int .u64 0)
/-- while the copy is spoilt -/
structure Spo (w : World) (A eb rb n rn : Nat) (y : Nf) (u : World) : Prop where
  nf : NFB u A y
  fr : Fr2 eb rb w u
  e : Room u eb 34 (n * 7)
  r : Room u rb 28 rn
theorem Spo.put7 {w : World} {A eb rb n rn : Nat} {y : Nf} {u : World} (h : Spo w A eb rb n rn y u) (o : Nat) : Spo w A eb rb n rn y (put7 u eb o) := by
  obtain ⟨h1, h2, h3, h4⟩ := h
  have hA : A ≠ eb := fun e => by subst e; exact absurd (TyB.ne h1.ty h3.ty) (by decide)
  have hR : rb ≠ eb := fun e => by subst e; exact absurd (TyB.ne h4.ty h3.ty) (by decide)
  have hk : ∀ k, k ≠ eb → (Go.Proofs.YtmjnobdlgbojoaaDoor.put7 u eb o).heap[k]? = u.heap[k]? := fun k hk => by
    unfold Go.Proofs.YtmjnobdlgbojoaaDoor.put7
    rw [Below.heap_setCell _ _ _ k hk, Below.heap_setCell _ _ _ k hk, Below.heap_setCell _ _ _ k hk, Below.heap_setCell _ _ _ k hk, Below.heap_setCell _ _ _ k hk, Below.heap_setCell _ _ _ k hk, Below.heap_setCell _ _ _ k hk]
  refine ⟨(hk A hA).trans h1, ?_, ?_, h4.keep (hk rb hR)⟩
  · unfold Go.Proofs.YtmjnobdlgbojoaaDoor.put7
    exact ((((((h2.trans (Fr2.set _ _ _ _ _)).trans (Fr2.set _ _ _ _ _)).trans (Fr2.set _ _ _ _ _)).trans (Fr2.set _ _ _ _ _)).trans (Fr2.set _ _ _ _ _)).trans (Fr2.set _ _ _ _ _)).trans (Fr2.set _ _ _ _ _)
  · unfold Go.Proofs.YtmjnobdlgbojoaaDoor.put7
    exact (((((((h3.set _ _).set _ _).set _ _).set _ _).set _ _).set _ _).set _ _)
theorem Spo.put1 {w : World} {A eb rb n rn : Nat} {y : Nf} {u : World} (h : Spo w A eb rb n rn y u) (o : Nat) (v : Value) : Spo w A eb rb n rn y (u.setCell ⟨rb, o, none⟩ v) := by
  obtain ⟨h1, h2, h3, h4⟩ := h
  have hA : A ≠ rb := fun e => by subst e; exact absurd (TyB.ne h1.ty h4.ty) (by decide)
  have hR : eb ≠ rb := fun e => by subst e; exact absurd (TyB.ne h3.ty h4.ty) (by decide)
  exact ⟨(Below.heap_setCell u ⟨rb, o, none⟩ v A hA).trans h1, h2.trans (Fr2.setB _ _ _ _ _), h3.keep (Below.heap_setCell u ⟨rb, o, none⟩ v eb hR), h4.set _ _⟩
set_option maxRecDepth 8000 in
set_option maxHeartbeats 16000000 in
theorem spoil_any (S : Int) (eb rb n rn ec rc : Nat) (w : World) (hE : Room w eb 34 (n * 7)) (hU : Room w rb 28 rn) (hn : n ≤ 1048576) (hr : rn ≤ 1048576) :
    Calls Tryd.prog 18 #[.agg #[.int .i64 S, .slice (some ⟨eb, 0, none⟩) n ec, .slice (some ⟨rb, 0, none⟩) rn rc]] w fun e w' => e = .returned (.tuple #[]) ∧ Fr2 eb rb w w' := by
  have kk : Below w.heap.size w (w.alloc (.cells #[.int .i64 S, .slice (some ⟨eb, 0, none⟩) n ec, .slice (some ⟨rb, 0, none⟩) rn rc] 25)) := (Below.refl _ _).alloc (Nat.le_refl _) _
  have HSP : Hid (Spo w w.heap.size eb rb n rn ⟨S, some ⟨eb, 0, none⟩, n, ec, some ⟨rb, 0, none⟩, rn, rc⟩ (w.alloc (.cells #[.int .i64 S, .slice (some ⟨eb, 0, none⟩) n ec, .slice (some ⟨rb, 0, none⟩) rn rc] 25))) :=
    ⟨nfb_new w ⟨S, some ⟨eb, 0, none⟩, n, ec, some ⟨rb, 0, none⟩, rn, rc⟩, Fr2.below kk, hE.keep (kk.block eb hE.lt), hU.keep (kk.block rb hU.lt)⟩
  obtain ⟨w1, hw1⟩ : ∃ w1, w.alloc (.cells #[.int .i64 S, .slice (some ⟨eb, 0, none⟩) n ec, .slice (some ⟨rb, 0, none⟩) rn rc] 25) = w1 := ⟨_, rfl⟩
  obtain ⟨A, hA⟩ : ∃ A, w.heap.size = A := ⟨_, rfl⟩
  have HW1 : Hid (w.alloc (.cells #[.int .i64 S, .slice (some ⟨eb, 0, none⟩) n ec, .slice (some ⟨rb, 0, none⟩) rn rc] 25) = w1) := hw1
  have HAA : Hid (w.heap.size = A) := hA
  rw [hw1, hA] at HSP
  clear hw1 hA kk hE hU
  go_enter Tryd.func18, Tryd.ntmps18
  go_upto_region 1 with fail
  rw [HW1.out, HAA.out]
  clear HW1
  go_wp2_with fail
  go_loopw [2] (fun i u => ∃ m : Nat, i = .int .i64 (m : Nat) ∧ m ≤ n ∧ Hid (Spo w A eb rb n rn ⟨S, some ⟨eb, 0, none⟩, n, ec, some ⟨rb, 0, none⟩, rn, rc⟩ u)) (fun i _ => n - (intOf i).toNat)
  case atStart => exact ⟨0, rfl, Nat.zero_le _, HSP⟩
  case round =>
    clear HSP
    obtain ⟨m, rfl, hm, HS⟩ := hrel
    obtain ⟨z0, z1, z2⟩ := HS.out.nf.cells
    simp only at z0 z1 z2
    by_cases hmn : m < n
    · have hmn' : (m : Int) < (n : Int) := by omega
      obtain ⟨⟨d0, p0⟩, f0⟩ := HS.out.e.cell (i := m * 7) (by omega)
      obtain ⟨⟨d1, p1⟩, f1⟩ := HS.out.e.cell (i := m * 7 + 1) (by omega)
      obtain ⟨⟨d2, p2⟩, f2⟩ := HS.out.e.cell (i := m * 7 + 2) (by omega)
      obtain ⟨⟨d3, p3⟩, f3⟩ := HS.out.e.cell (i := m * 7 + 3) (by omega)
      obtain ⟨⟨d4, p4⟩, f4⟩ := HS.out.e.cell (i := m * 7 + 4) (by omega)
      obtain ⟨⟨d5, p5⟩, f5⟩ := HS.out.e.cell (i := m * 7 + 5) (by omega)
      obtain ⟨⟨d6, p6⟩, f6⟩ := HS.out.e.cell (i := m * 7 + 6) (by omega)
      have HP : Hid (Spo w A eb rb n rn ⟨S, some ⟨eb, 0, none⟩, n, ec, some ⟨rb, 0, none⟩, rn, rc⟩ (put7 wr eb (m * 7))) := HS.out.put7 _
      clear HS
      unfold put7 at HP
      go_wp2
      go_roundw
      case rel => exact ⟨m + 1, by go_num, by omega, HP⟩
      case measure => simp [intOf]; omega
    · have hmn' : ¬ (m : Int) < (n : Int) := by omega
      go_wp2_with fail
      clear z0 z1 z2 hmn hmn'
      go_loopw [3] (fun i u => ∃ m : Nat, i = .int .i64 (m : Nat) ∧ m ≤ rn ∧ Hid (Spo w A eb rb n rn ⟨S, some ⟨eb, 0, none⟩, n, ec, some ⟨rb, 0, none⟩, rn, rc⟩ u)) (fun i _ => rn - (intOf i).toNat)
      case atStart => exact ⟨0, rfl, Nat.zero_le _, HS⟩
      case round =>
        clear HS
        obtain ⟨m, rfl, hm, HS⟩ := hrel
        obtain ⟨z0, z1, z2⟩ := HS.out.nf.cells
        simp only at z0 z1 z2
        by_cases hmn : m < rn
        · have hmn' : (m : Int) < (rn : Int) := by omega
          obtain ⟨⟨d0, p0⟩, f0⟩ := HS.out.r.cell hmn
          have HP : Hid (Spo w A eb rb n rn ⟨S, some ⟨eb, 0, none⟩, n, ec, some ⟨rb, 0, none⟩, rn, rc⟩ (wr.setCell ⟨rb, m, none⟩ (.int .u32 4294967295))) := HS.out.put1 _ _
          clear HS
          go_wp2
          go_roundw
          case rel => exact ⟨m + 1, by go_num, by omega, HP⟩
          case measure => simp [intOf]; omega
        · have hmn' : ¬ (m : Int) < (rn : Int) := by omega
          go_wp2
          go_end0
          exact ⟨rfl, HS.out.fr⟩
end Go.Proofs.YtmjnobdlgbojoaaDoor

/- heronlaw08's copied. -/
namespace Go.Proofs.YtmjnobdlgbojoaaDoor
open Go.RowKit
attribute [local go_sem ↓] Go.wp_at_zero Go.wp_at_succ

theorem run_append_nil_nil {P : Program} (w : World) (t ty e : TypeId) (i : TypeInfo) (ht : P.underlying t = some (.slice e)) (hi : P.info? e = some i) (x : Value) (hs : Src P i.size t x 0 [] w) : (Builtin.append_ #[t, t] ty #[.slice none 0 0, x]).run P w = .ok (.slice none 0 0) w := by
  simp [Builtin.append_, run_underlying ht, sizeOf, typeInfo, hi, hs.len, hs.cells]
theorem run_edges0 (w : World) (ty : TypeId) (base : Nat) {X : Nat → Prop} (a : Option Addr) (m cap : Nat) (fs : List Eg) (hm : fs.length = m) (hf : EAt X w a fs) (hl : m ≤ 1048576) (hb : base ≤ w.heap.size) :
    ∃ a' c' w', (Builtin.append_ #[22, 22] ty #[.slice none 0 0, .slice a m cap]).run Tryd.prog w = .ok (.slice a' m c') w' ∧ RowE w' base (.slice a' m c') fs ∧ Below w.heap.size w w' := by
  obtain ⟨i0, hi, hz0, hz1, hz2⟩ := info_parts infoE
  subst hm
  by_cases hf0 : fs.length = 0
  · have hf1 : fs = [] := List.length_eq_zero_iff.1 hf0
    subst hf1
    have hs : Src Tryd.prog i0.size 22 (.slice a 0 cap) 0 [] w := by
      cases a with
      | none => exact Src.ofNil w Tryd.underlying22 cap
      | some ad => exact Src.ofSlice w Tryd.underlying22 ad 0 cap [] (by simp) (fun j u hj => by simp at hj) (fun u hu => by cases hu)
    exact ⟨none, 0, w, run_append_nil_nil w _ ty _ i0 Tryd.underlying22 hi _ hs, rowE_nil _ _, Below.refl _ _⟩
  · rcases hf with rfl | ⟨b, off, rfl, _, hc⟩
    · exact absurd rfl hf0
    · obtain ⟨g', c', w', hr, ho, hg, hgg, hlt⟩ := run_append_lies (P := Tryd.prog) w 22 ty base 34 i0 _ 7 56 Tryd.underlying22 hi hz0 hz1 hz2 rfl (by decide) _ 0 _ (rowE_nil w base) ⟨b, off, none⟩ fs.length cap (flatE fs) (by rw [flatE_length, Nat.mul_comm])
        (fun j v hj => by rw [Go.WideShapes.add_plain]; exact hc j v hj) (flatE_one fs) (by omega) (by simp only [maxLen]; omega) (by omega) hb w.heap.size rfl
      rw [Nat.zero_add] at hr ho
      exact ⟨some ⟨g', 0, none⟩, c', w', hr, ho, (Below.refl _ _).grown hg (Nat.le_refl _) (fun k e => by cases e)⟩
theorem run_words0 (w : World) (ty : TypeId) (base : Nat) {X : Nat → Prop} (a : Option Addr) (m cap : Nat) (fs : List Nat) (hm : fs.length = m) (hf : UAt X w a fs) (hl : m ≤ 1048576) (hb : base ≤ w.heap.size) :
    ∃ a' c' w', (Builtin.append_ #[23, 23] ty #[.slice none 0 0, .slice a m cap]).run Tryd.prog w = .ok (.slice a' m c') w' ∧ RowU w' base (.slice a' m c') fs ∧ Below w.heap.size w w' := by
  obtain ⟨i0, hi, hz0, hz1, hz2⟩ := info_parts infoU
  subst hm
  by_cases hf0 : fs.length = 0
  · have hf1 : fs = [] := List.length_eq_zero_iff.1 hf0
    subst hf1
    have hs : Src Tryd.prog i0.size 23 (.slice a 0 cap) 0 [] w := by
      cases a with
      | none => exact Src.ofNil w Tryd.underlying23 cap
      | some ad => exact Src.ofSlice w Tryd.underlying23 ad 0 cap [] (by simp) (fun j u hj => by simp at hj) (fun u hu => by cases hu)
    exact ⟨none, 0, w, run_append_nil_nil w _ ty _ i0 Tryd.underlying23 hi _ hs, rowU_nil _ _, Below.refl _ _⟩
  · rcases hf with rfl | ⟨b, off, rfl, _, hc⟩
    · exact absurd rfl hf0
    · obtain ⟨g', c', w', hr, ho, hg, hgg, hlt⟩ := run_append_lies (P := Tryd.prog) w 23 ty base 28 i0 _ 1 4 Tryd.underlying23 hi hz0 hz1 hz2 rfl (by decide) _ 0 _ (rowU_nil w base) ⟨b, off, none⟩ fs.length cap (wds fs) (by rw [wds_length, Nat.mul_one])
        (fun j v hj => by
          unfold wds at hj
          rw [List.getElem?_map] at hj
          cases hx : fs[j]? with
          | none => rw [hx] at hj; cases hj
          | some x =>
            rw [hx] at hj
            cases hj
            rw [Go.WideShapes.add_plain]
            exact hc j x hx) (fun v hv => by
          unfold wds at hv
          obtain ⟨x, _, rfl⟩ := List.mem_map.1 hv
          rfl) (by omega) (by simp only [maxLen]; omega) (by omega) hb w.heap.size rfl
      rw [Nat.zero_add] at hr ho
      exact ⟨some ⟨g', 0, none⟩, c', w', hr, ho, (Below.refl _ _).grown hg (Nat.le_refl _) (fun k e => by cases e)⟩
theorem wpList_append_run {w w' : World} {ops : Array Oper} {rest : List Oper} {o : Oper} {a : Act} {Q : Exit → Act → World → Prop} (t : TypeId) (hgd : o.guard = none) (s y : Operand)
    (ho : o.op = .call { callee := .builtin .append, args := #[s, y], argTypes := #[t, t] }) {V Y v : Value} (hs : a.eval s = V) (hy : a.eval y = Y) (hr : (Builtin.append_ #[t, t] o.type #[V, Y]).run Tryd.prog w = .ok v w')
    (h : wpList Tryd.prog ops Q rest (a.put o.dst v) w') : wpList Tryd.prog ops Q (o :: rest) a w := by
  refine wpList_plain hgd fun K hK => ?_
  unfold Oper.wp execOp
  simp only [ho, resolve, invoke, builtin, Sem.run_bind, Sem.run_pure, Result.andThen_ok, List.map_toArray, List.map_cons, List.map_nil, hs, hy, hr]
  exact hK _ _ h
/-- while a machine is copied -/
structure Cq (w : World) (A R C : Nat) (x z : Nf) (u : World) : Prop where
  nf : NFB u A x
  res : NFB u R ⟨0, none, 0, 0, none, 0, 0⟩
  cop : NFB u C z
  low : Below w.heap.size w u
  hr : w.heap.size ≤ R
  hc : w.heap.size ≤ C
  ac : A ≠ C
  rc : R ≠ C
section
variable {w : World} {A R C : Nat} {x z : Nf} {u u' : World}
theorem Cq.later (h : Cq w A R C x z u) (hb : Below u.heap.size u u') : Cq w A R C x z u' := ⟨h.nf.later hb, h.res.later hb, h.cop.later hb, below_step h.low hb, h.hr, h.hc, h.ac, h.rc⟩
theorem Cq.grown (h : Cq w A R C x z u) {r : Option Nat} (hg : u.grownBy u' r) (hr : ∀ k, r = some k → w.heap.size ≤ k ∧ ∃ t, TyB u t k ∧ t ≠ 25) : Cq w A R C x z u' := by
  have hst : ∀ {b : Nat} {y : Nf}, NFB u b y → NFB u' b y := fun {b y} hb => (hg.block b hb.lt (fun e => by
    obtain ⟨_, t, h1, h2⟩ := hr b e.symm
    exact h2 (TyB.ne h1 hb.ty))).trans hb
  exact ⟨hst h.nf, hst h.res, hst h.cop, ⟨hg.os.trans h.low.os, hg.tape.trans h.low.tape, hg.output.trans h.low.output, Nat.le_trans h.low.size hg.size, fun k hk => (hg.block k (Nat.lt_of_lt_of_le hk h.low.size) (fun e => by have := (hr k e.symm).1; omega)).trans (h.low.block k hk)⟩, h.hr, h.hc, h.ac, h.rc⟩
theorem Cq.setE (h : Cq w A R C x z u) (a : Option Addr) (n c : Nat) : Cq w A R C x ⟨z.S, a, n, c, z.ra, z.rn, z.rc⟩ (u.setCell ⟨C, 1, none⟩ (.slice a n c)) :=
  ⟨(Below.heap_setCell u ⟨C, 1, none⟩ _ A h.ac).trans h.nf, (Below.heap_setCell u ⟨C, 1, none⟩ _ R h.rc).trans h.res, by unfold NFB; rw [heap_set h.cop]; rfl, h.low.setCell (p := ⟨C, 1, none⟩) h.hc _, h.hr, h.hc, h.ac, h.rc⟩
theorem Cq.setU (h : Cq w A R C x z u) (a : Option Addr) (n c : Nat) : Cq w A R C x ⟨z.S, z.ea, z.en, z.ec, a, n, c⟩ (u.setCell ⟨C, 2, none⟩ (.slice a n c)) :=
  ⟨(Below.heap_setCell u ⟨C, 2, none⟩ _ A h.ac).trans h.nf, (Below.heap_setCell u ⟨C, 2, none⟩ _ R h.rc).trans h.res, by unfold NFB; rw [heap_set h.cop]; rfl, h.low.setCell (p := ⟨C, 2, none⟩) h.hc _, h.hr, h.hc, h.ac, h.rc⟩
end
theorem res_copied {tmps : Array Value} {w : World} {R : Nat} {y : Nf} (h4 : tmps[2]?.getD undef = .pointer (some ⟨R, 0, none⟩)) (hR : NFB w R y) : (results Tryd.f13 tmps).run Tryd.prog w = .ok y.val w := by
  obtain ⟨t0, t1, t2⟩ := hR.cells
  unfold Nf.val
  simp [results, Tryd.results13, go_sem, h4, t0, t1, t2]
end Go.Proofs.YtmjnobdlgbojoaaDoor
