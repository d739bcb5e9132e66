/- heronlaw14: fixed. -/
import Derived.Test.YtjlfhaehdllmcaaG38
import Derived.Lib.SlBytesConst
namespace Go.Proofs.Ytjlfhaehdllmcaa
open Go.RowKit Go.Maps Sf
attribute [local go_sem ↓] Go.wp_at_zero Go.wp_at_succ

theorem not_more {P : Nat → Prop} {w u : World} {b : Nat} (h : ¬ P b) (hb : b < w.heap.size) : ¬ More P w u b := fun x => by
  rcases x with x | x
  · exact h x
  · omega
theorem stat_keep {P : Nat → Prop} {w u : World} {z : Nat} {a b c e : Value} (h : StatB w z a b c e) (hn : ¬ P z) (hf : FrP P w u) : StatB u z a b c e := (hf.block z (Array.getElem?_eq_some_iff.1 h).1 hn).trans h
theorem StatB.lt {w : World} {z : Nat} {a b c e : Value} (h : StatB w z a b c e) : z < w.heap.size := (Array.getElem?_eq_some_iff.1 h).1
theorem StatB.later {w u : World} {z : Nat} {a b c e : Value} (h : StatB w z a b c e) (hb : Below w.heap.size w u) : StatB u z a b c e := (hb.block z h.lt).trans h
theorem lat_const (w : World) (l : List UInt8) (fr : Nat × Nat) (hl : l.length ≤ 1000) : LAt (w.alloc (.cells (uv l).toArray 5 fr)) (.slice (some ⟨w.heap.size, 0, none⟩) l.length l.length) (uv l) := by
  refine ⟨_, l.length, by rw [uv_len], by rw [uv_len]; exact Nat.le_refl _, by omega, .inr ⟨w.heap.size, 0, rfl, fun k v hv => ?_⟩⟩
  rw [World.cell?_alloc_mark, Nat.zero_add]
  simpa using hv
/-- what is kept while a disk is changed: a told stat, a row of one's own -/
theorem own_keepP {P : Nat → Prop} {w u : World} {base : Nat} {e : TypeId} {V : Value} {n : Nat} {xs : List Value} (h : w.ownsRow base e 1 V n xs) (hn : ∀ k, base ≤ k → k < w.heap.size → ¬ P k) (hf : FrP P w u) : u.ownsRow base e 1 V n xs := ownsRow_keep h (fun b _ hb hl => hf.block b hl (hn b hb hl))
theorem lo_step {P : Nat → Prop} {w u v : World} (h : Below w.heap.size w u) (hf : FrP P u v) (hp : ∀ k, P k → w.heap.size ≤ k) : Below w.heap.size w v ∧ ∀ k, More P u v k → w.heap.size ≤ k := by
  refine ⟨⟨hf.os.trans h.os, hf.tape.trans h.tape, hf.output.trans h.output, Nat.le_trans h.size hf.size, fun k hk => (hf.block k (Nat.lt_of_lt_of_le hk h.size) (fun x => by have := hp k x; omega)).trans (h.block k hk)⟩, fun k hk => ?_⟩
  rcases hk with hk | hk
  · exact hp k hk
  · have := h.size; omega
theorem below_two {w u v : World} (h : Below w.heap.size w u) (hb : Below u.heap.size u v) : Below w.heap.size w v := below_step h hb
theorem lat_cell {w : World} {a : Option Addr} {n c : Nat} {v : Value} (h : LAt w (.slice a n c) [v]) : ∃ ad, a = some ad ∧ w.cell? ad = some v := by
  obtain ⟨a', c', e, _, _, h3⟩ := h
  cases e
  rcases h3 with h3 | ⟨b, off, rfl, hc⟩
  · cases h3
  · exact ⟨_, rfl, hc 0 v rfl⟩
set_option maxRecDepth 8000 in
set_option maxHeartbeats 2000000 in
theorem fixed_any (w : World) : Calls Try.prog 5 #[] w fun e w' => e = .returned (.bool true) ∧ Below w.heap.size w w' := by
  have HN : Hid (Calls Try.prog 6 #[] w _) := new_any w
  have hp1 : ∀ (p : Option Addr) (u : World), (binOp .eql 24 (.pointer p) (.pointer none)).run Try.prog u = .ok (.bool p.isNone) u := fun p u => run_eql_pointer_nil u _ p (by kernel_rfl)
  have kc : ∀ (u : World) (C : Array Value) (n c : Nat), (convert 50 50 (.slice (some ⟨u.heap.size, 0, none⟩) n c)).run Try.prog (u.alloc (.cells C 5)) = .ok (.slice (some ⟨u.heap.size, 0, none⟩) n c) (u.alloc (.cells C 5 (C.size, C.size + 1))) := fun u C n c => Lib.run_convert_bytes_const (P := Try.prog) u 50 5 C n c (by kernel_rfl) Try.underlying5
  go_enter Try.func5, Try.ntmps5
  go_wp2_with fail
  refine HN.out.mono ?_
  rintro e w1 ⟨B, P, rfl, hd1, hlow, k1⟩
  have HLOW : Hid ((∀ k, P k → w.heap.size ≤ k) ∧ Below w.heap.size w w1) := ⟨hlow, k1⟩
  have HC : Hid (Calls Try.prog 16 #[.pointer (some ⟨B, 0, none⟩), .string sa] w1 _) := fx1 hd1
  unfold sa at HC
  clear hd1 hlow k1 HN
  go_wp2_with fail
  refine HC.out.mono ?_
  rintro e w2 ⟨rfl, hd2, fr2⟩
  have L2 := lo_step HLOW.out.2 fr2 HLOW.out.1
  obtain ⟨P2, hP2⟩ : ∃ P2, More P w1 w2 = P2 := ⟨_, rfl⟩
  rw [hP2] at hd2 L2
  have k2 : Below w2.heap.size w2 (w2.alloc (.cells #[.int .u8 49, .int .u8 50] 5 (2, 3))) := (Below.refl _ _).alloc (Nat.le_refl _) _
  have HC : Hid (Calls Try.prog 17 #[.pointer (some ⟨B, 0, none⟩), .string sa, .slice (some ⟨w2.heap.size, 0, none⟩) 2 2] (w2.alloc (.cells #[.int .u8 49, .int .u8 50] 5 (2, 3))) _) := fx2 (hd2.later k2) (f' := f2) (by omega) (lat_const w2 [49, 50] (2, 3) (by decide)) rfl (by decide) (by decide) (by decide)
  unfold sa at HC
  have HL : Hid (Below w.heap.size w (w2.alloc (.cells #[.int .u8 49, .int .u8 50] 5 (2, 3))) ∧ ∀ k, P2 k → w.heap.size ≤ k) := ⟨below_step L2.1 k2, L2.2⟩
  clear hd2 fr2 k2 L2 hP2 HLOW
  go_wp2_with fail
  refine HC.out.mono ?_
  rintro e w3 ⟨rfl, hd3, fr3⟩
  have L3 := lo_step HL.out.1 fr3 HL.out.2
  obtain ⟨P3, hP3⟩ : ∃ P3, More P2 (w2.alloc (.cells #[.int .u8 49, .int .u8 50] 5 (2, 3))) w3 = P3 := ⟨_, rfl⟩
  rw [hP3] at hd3 L3
  have HC : Hid (Calls Try.prog 18 #[.pointer (some ⟨B, 0, none⟩), .string sa] w3 _) := fx3 hd3
  unfold sa at HC
  have HL3 : Hid (Below w.heap.size w w3 ∧ ∀ k, P3 k → w.heap.size ≤ k) := L3
  clear hd3 fr3 L3 hP3 HL
  go_wp2_with fail
  refine HC.out.mono ?_
  rintro e w4 ⟨rfl, hd4, fr4⟩
  have L4 := lo_step HL3.out.1 fr4 HL3.out.2
  obtain ⟨P4, hP4⟩ : ∃ P4, More P3 w3 w4 = P4 := ⟨_, rfl⟩
  rw [hP4] at hd4 L4
  have k4 : Below w4.heap.size w4 (w4.alloc (.cells #[.int .u8 51, .int .u8 52, .int .u8 53] 5 (3, 4))) := (Below.refl _ _).alloc (Nat.le_refl _) _
  have HC : Hid (Calls Try.prog 17 #[.pointer (some ⟨B, 0, none⟩), .string sa, .slice (some ⟨w4.heap.size, 0, none⟩) 3 3] (w4.alloc (.cells #[.int .u8 51, .int .u8 52, .int .u8 53] 5 (3, 4))) _) := fx2 (hd4.later k4) (f' := f4) (by omega) (lat_const w4 [51, 52, 53] (3, 4) (by decide)) rfl (by decide) (by decide) (by decide)
  unfold sa at HC
  have HL : Hid (Below w.heap.size w (w4.alloc (.cells #[.int .u8 51, .int .u8 52, .int .u8 53] 5 (3, 4))) ∧ ∀ k, P4 k → w.heap.size ≤ k) := ⟨below_step L4.1 k4, L4.2⟩
  clear hd4 fr4 k4 L4 hP4 HL3
  go_wp2_with fail
  refine HC.out.mono ?_
  rintro e w5 ⟨rfl, hd5, fr5⟩
  have L5 := lo_step HL.out.1 fr5 HL.out.2
  obtain ⟨P5, hP5⟩ : ∃ P5, More P4 (w4.alloc (.cells #[.int .u8 51, .int .u8 52, .int .u8 53] 5 (3, 4))) w5 = P5 := ⟨_, rfl⟩
  rw [hP5] at hd5 L5
  have k5 : Below w5.heap.size w5 (w5.alloc (.cells #[.int .i64 1] 3)) := (Below.refl _ _).alloc (Nat.le_refl _) _
  have HC : Hid (Calls Try.prog 13 #[.pointer (some ⟨B, 0, none⟩), .slice (some ⟨w5.heap.size, 0, none⟩) 1 1] (w5.alloc (.cells #[.int .i64 1] 3)) _) := fx5 (hd5.later k5) ⟨lat_lit w5 (.int .i64 1) 3 (0, 0), fun b off n c e _ hx => by cases e; have := hd5.m.low _ hx; omega⟩
  have HL5 : Hid (Below w.heap.size w (w5.alloc (.cells #[.int .i64 1] 3)) ∧ ∀ k, P5 k → w.heap.size ≤ k) := ⟨below_step L5.1 k5, L5.2⟩
  clear hd5 fr5 k5 L5 hP5 HL
  go_wp2_with fail
  refine HC.out.mono ?_
  rintro e w6 ⟨rfl, hd6, fr6⟩
  have L6 := lo_step HL5.out.1 fr6 HL5.out.2
  obtain ⟨P6, hP6⟩ : ∃ P6, More P5 (w5.alloc (.cells #[.int .i64 1] 3)) w6 = P6 := ⟨_, rfl⟩
  rw [hP6] at hd6 L6
  have HD6 : Hid (Dsk P6 w6 B D5 5) := hd6
  have HC : Hid (Calls Try.prog 8 #[.pointer (some ⟨B, 0, none⟩), .string sa] w6 _) := fxS hd6
  unfold sa at HC
  have HL6 : Hid (Below w.heap.size w w6 ∧ ∀ k, P6 k → w.heap.size ≤ k) := L6
  clear hd6 fr6 L6 hP6 HL5
  go_wp2_with fail
  refine HC.out.mono ?_
  rintro e w7 ⟨rfl, k7⟩
  obtain ⟨w8, hw8⟩ : ∃ w8, w7.alloc (.cells #[.int .i64 1, .int .i64 1, .int .i64 1, .int .i64 3] 32) = w8 := ⟨_, rfl⟩
  have HW8 : Hid (w7.alloc (.cells #[.int .i64 1, .int .i64 1, .int .i64 1, .int .i64 3] 32) = w8) := hw8
  have k8 : Below w7.heap.size w7 w8 := by rw [← hw8]; exact (Below.refl _ _).alloc (Nat.le_refl _) _
  obtain ⟨b6, hb6⟩ : ∃ b6, w7.heap.size = b6 := ⟨_, rfl⟩
  have HB6 : Hid (w7.heap.size = b6 ∧ w6.heap.size ≤ b6) := ⟨hb6, by rw [← hb6]; exact k7.size⟩
  have HS8 : Hid (StatB w8 b6 (.int .i64 1) (.int .i64 1) (.int .i64 1) (.int .i64 3)) := by rw [← hw8, ← hb6]; exact heap_alloc_new w7 _
  have HK8 : Hid (Below w6.heap.size w6 w8) := below_step k7 k8
  have HC : Hid (Calls Try.prog 19 #[.pointer (some ⟨B, 0, none⟩), .int .i64 1, .int .i64 1, .int .i64 0, .int .i64 9] w8 _) := fxR (HD6.out.later HK8.out)
  clear k7 hw8 k8 hb6
  go_upto_region 10 with fail
  rw [HW8.out, HB6.out.1]
  clear HW8
  go_wp2_with fail
  refine HC.out.mono ?_
  rintro e w9 ⟨x, rfl, hx9, k9⟩
  have HX9 : Hid (w9.ownsRow w6.heap.size 5 1 x 3 (uv [49, 50, 51])) := own_low hx9 HK8.out.size
  have HS9 : Hid (StatB w9 b6 (.int .i64 1) (.int .i64 1) (.int .i64 1) (.int .i64 3)) := HS8.out.later k9
  have HK9 : Hid (Below w6.heap.size w6 w9) := below_step HK8.out k9
  have HC : Hid (Calls Try.prog 20 #[.pointer (some ⟨B, 0, none⟩), .string sa, .string sb] w9 _) := fx6 (HD6.out.later HK9.out)
  unfold sa sb at HC
  clear hx9 k9 HK8 HS8
  go_wp2_with fail
  refine HC.out.mono ?_
  rintro e w10 ⟨rfl, hd10, fr10⟩
  have L10 := lo_step (below_two HL6.out.1 HK9.out) fr10 HL6.out.2
  have hnP6 : ∀ k, w6.heap.size ≤ k → ¬ P6 k := fun k hk hp => by have := HD6.out.m.low k hp; omega
  have HX10 : Hid (w10.ownsRow w6.heap.size 5 1 x 3 (uv [49, 50, 51])) := own_keepP HX9.out (fun k hk _ => hnP6 k hk) fr10
  have HS10 : Hid (StatB w10 b6 (.int .i64 1) (.int .i64 1) (.int .i64 1) (.int .i64 3)) := stat_keep HS9.out (hnP6 b6 HB6.out.2) fr10
  obtain ⟨P10, hP10⟩ : ∃ P10, More P6 w9 w10 = P10 := ⟨_, rfl⟩
  have HQ10 : Hid (∀ k, w6.heap.size ≤ k → k < w9.heap.size → ¬ P10 k) := fun k h1 h2 => by rw [← hP10]; exact not_more (hnP6 k h1) h2
  rw [hP10] at hd10 L10
  have HD10 : Hid (Dsk P10 w10 B D6 6) := hd10
  have HL10 : Hid (Below w.heap.size w w10 ∧ ∀ k, P10 k → w.heap.size ≤ k) := L10
  have HX9L : Hid (b6 < w9.heap.size ∧ ∀ b, x.ownBlock = some b → w6.heap.size ≤ b ∧ b < w9.heap.size) := ⟨HS9.out.lt, fun b hb => by
    rcases HX9.out.2 with ⟨e, _⟩ | ⟨g, cap, cur, e, hg, hgc, _⟩
    · rw [e] at hb; cases hb
    · rw [e] at hb
      have : g = b := Option.some.inj hb
      exact ⟨by omega, by have := (Array.getElem?_eq_some_iff.1 hgc).1; omega⟩⟩
  have HC : Hid (Calls Try.prog 21 #[.pointer (some ⟨B, 0, none⟩), .int .i64 1] w10 _) := fxN hd10
  clear hd10 fr10 L10 hP10 hnP6 HX9 HS9 HL6 HK9 HD6
  go_wp2_with fail
  refine HC.out.mono ?_
  rintro e w11 ⟨rfl, k11⟩
  obtain ⟨w12, hw12⟩ : ∃ w12, w11.alloc (.cells #[.int .i64 1, .int .i64 1, .int .i64 1, .int .i64 3] 32) = w12 := ⟨_, rfl⟩
  have HW12 : Hid (w11.alloc (.cells #[.int .i64 1, .int .i64 1, .int .i64 1, .int .i64 3] 32) = w12) := hw12
  have k12 : Below w11.heap.size w11 w12 := by rw [← hw12]; exact (Below.refl _ _).alloc (Nat.le_refl _) _
  obtain ⟨b11, hb11⟩ : ∃ b11, w11.heap.size = b11 := ⟨_, rfl⟩
  have HB11 : Hid (w11.heap.size = b11 ∧ w10.heap.size ≤ b11) := ⟨hb11, by rw [← hb11]; exact k11.size⟩
  have HS12 : Hid (StatB w12 b11 (.int .i64 1) (.int .i64 1) (.int .i64 1) (.int .i64 3)) := by rw [← hw12, ← hb11]; exact heap_alloc_new w11 _
  have HK12 : Hid (Below w10.heap.size w10 w12) := below_step k11 k12
  have HC : Hid (Calls Try.prog 11 #[.pointer (some ⟨B, 0, none⟩)] w12 _) := fxL (HD10.out.later HK12.out)
  clear k11 hw12 k12 hb11
  go_upto_region 13 with fail
  rw [HW12.out, HB11.out.1]
  clear HW12
  go_wp2_with fail
  refine HC.out.mono ?_
  rintro e w13 ⟨l, rfl, hl13, k13⟩
  have HL13 : Hid (w13.ownsRow w10.heap.size 9 1 l 1 [.string sb]) := own_low hl13 HK12.out.size
  have HS13 : Hid (StatB w13 b11 (.int .i64 1) (.int .i64 1) (.int .i64 1) (.int .i64 3)) := HS12.out.later k13
  have HK13 : Hid (Below w10.heap.size w10 w13) := below_step HK12.out k13
  have HC : Hid (Calls Try.prog 12 #[.pointer (some ⟨B, 0, none⟩)] w13 _) := copy_any (HD10.out.later HK13.out)
  clear hl13 k13 HK12 HS12
  go_wp2_with fail
  refine HC.out.mono ?_
  rintro e w14 ⟨B2, PY, rfl, hdy, hpy, k14⟩
  have HK14 : Hid (Below w10.heap.size w10 w14) := below_step HK13.out k14
  have HL14 : Hid (w14.ownsRow w10.heap.size 9 1 l 1 [.string sb]) := ownsRow_keep HL13.out (fun b _ _ hlt => k14.block b hlt)
  have HS14 : Hid (StatB w14 b11 (.int .i64 1) (.int .i64 1) (.int .i64 1) (.int .i64 3)) := HS13.out.later k14
  have HY14 : Hid (Dsk PY w14 B2 D6 6 ∧ ∀ k, PY k → w10.heap.size ≤ k) := ⟨hdy, fun k hk => Nat.le_trans HK13.out.size (hpy k hk)⟩
  have HC : Hid (Calls Try.prog 22 #[.pointer (some ⟨B, 0, none⟩), .string sb] w14 _) := fx7 (HD10.out.later HK14.out)
  unfold sb at HC
  clear hdy hpy k14 HK13 HL13 HS13
  go_wp2_with fail
  refine HC.out.mono ?_
  rintro e w15 ⟨rfl, hd15, fr15⟩
  have hn10 : ∀ k, w10.heap.size ≤ k → ¬ P10 k := fun k hk hp => by have := HD10.out.m.low k hp; omega
  have hs14 := HK14.out.size
  have L15 := lo_step (below_two HL10.out.1 HK14.out) fr15 HL10.out.2
  have HX14 : Hid (w14.ownsRow w6.heap.size 5 1 x 3 (uv [49, 50, 51]) ∧ StatB w14 b6 (.int .i64 1) (.int .i64 1) (.int .i64 1) (.int .i64 3)) := ⟨ownsRow_keep HX10.out (fun b _ _ hlt => HK14.out.block b hlt), HS10.out.later HK14.out⟩
  have hnx : ∀ b, x.ownBlock = some b → ¬ P10 b := fun b hb => HQ10.out b (HX9L.out.2 b hb).1 (HX9L.out.2 b hb).2
  have hn6 : ¬ P10 b6 := HQ10.out b6 HB6.out.2 HX9L.out.1
  have HX15 : Hid (w15.ownsRow w6.heap.size 5 1 x 3 (uv [49, 50, 51])) := ownsRow_keep HX14.out.1 (fun b hb _ hlt => fr15.block b hlt (hnx b hb))
  have HS15 : Hid (StatB w15 b6 (.int .i64 1) (.int .i64 1) (.int .i64 1) (.int .i64 3)) := stat_keep HX14.out.2 hn6 fr15
  have HT15 : Hid (StatB w15 b11 (.int .i64 1) (.int .i64 1) (.int .i64 1) (.int .i64 3)) := stat_keep HS14.out (hn10 b11 HB11.out.2) fr15
  have HL15 : Hid (w15.ownsRow w10.heap.size 9 1 l 1 [.string sb]) := own_keepP HL14.out (fun k hk _ => hn10 k hk) fr15
  have HY15 : Hid (Dsk PY w15 B2 D6 6) := HY14.out.1.keep (fun k hk => fr15.block k (HY14.out.1.m.low k hk) (hn10 k (HY14.out.2 k hk))) fr15.size
  have HC : Hid (Calls Try.prog 23 #[.pointer (some ⟨B, 0, none⟩), .string sb] w15 _) := fx8 hd15
  unfold sb at HC
  have HL15b : Hid (Below w.heap.size w w15 ∧ ∀ k, More P10 w14 w15 k → w.heap.size ≤ k) := L15
  have hq15 : ∀ k, ¬ P10 k → k < w14.heap.size → ¬ More P10 w14 w15 k := fun k h1 h2 => not_more h1 h2
  have HQ15 : Hid ((∀ b, x.ownBlock = some b → ¬ More P10 w14 w15 b) ∧ ¬ More P10 w14 w15 b6 ∧ ¬ More P10 w14 w15 b11 ∧ (∀ b, l.ownBlock = some b → ¬ More P10 w14 w15 b) ∧ ∀ k, PY k → ¬ More P10 w14 w15 k) := by
    refine ⟨fun b hb => hq15 b (hnx b hb) ?_, hq15 b6 hn6 HX14.out.2.lt, hq15 b11 (hn10 b11 HB11.out.2) HS14.out.lt, fun b hb => ?_, fun k hk => hq15 k (hn10 k (HY14.out.2 k hk)) (HY14.out.1.m.low k hk)⟩
    · rcases HX14.out.1.2 with ⟨e, _⟩ | ⟨g, cap, cur, e, hg, hgc, _⟩
      · rw [e] at hb; cases hb
      · rw [e] at hb
        have : g = b := Option.some.inj hb
        have := (Array.getElem?_eq_some_iff.1 hgc).1
        omega
    · rcases HL14.out.2 with ⟨e, _⟩ | ⟨g, cap, cur, e, hg, hgc, _⟩
      · rw [e] at hb; cases hb
      · rw [e] at hb
        have : g = b := Option.some.inj hb
        have := (Array.getElem?_eq_some_iff.1 hgc).1
        exact hq15 b (hn10 b (by omega)) (by omega)
  clear hd15 fr15 hn10 hs14 L15 HX14 hnx hn6 hq15 HX10 HS10 HQ10 HX9L HL14 HS14 HY14 HK14 HD10 HL10
  go_wp2_with fail
  refine HC.out.mono ?_
  rintro e w16 ⟨rfl, fr16⟩
  have HX16 : Hid (w16.ownsRow w6.heap.size 5 1 x 3 (uv [49, 50, 51])) := ownsRow_keep HX15.out (fun b hb _ hlt => fr16.block b hlt (HQ15.out.1 b hb))
  have HS16 : Hid (StatB w16 b6 (.int .i64 1) (.int .i64 1) (.int .i64 1) (.int .i64 3)) := stat_keep HS15.out HQ15.out.2.1 fr16
  have HT16 : Hid (StatB w16 b11 (.int .i64 1) (.int .i64 1) (.int .i64 1) (.int .i64 3)) := stat_keep HT15.out HQ15.out.2.2.1 fr16
  have HL16 : Hid (w16.ownsRow w10.heap.size 9 1 l 1 [.string sb]) := ownsRow_keep HL15.out (fun b hb _ hlt => fr16.block b hlt (HQ15.out.2.2.2.1 b hb))
  have HY16 : Hid (Dsk PY w16 B2 D6 6) := HY15.out.keep (fun k hk => fr16.block k (HY15.out.m.low k hk) (HQ15.out.2.2.2.2 k hk)) fr16.size
  have HLO : Hid (Below w.heap.size w w16) := (lo_step HL15b.out.1 fr16 HL15b.out.2).1
  have HC : Hid (Calls Try.prog 8 #[.pointer (some ⟨B2, 0, none⟩), .string sb] w16 _) := fxT HY16.out
  unfold sb at HC
  clear fr16 HX15 HS15 HT15 HL15 HY15 HQ15 HL15b
  go_wp2_with fail
  refine HC.out.mono ?_
  rintro e w17 ⟨rfl, k17⟩
  have k18 : Below w17.heap.size w17 (w17.alloc (.cells #[.int .i64 1, .int .i64 1, .int .i64 1, .int .i64 3] 32)) := (Below.refl _ _).alloc (Nat.le_refl _) _
  have HK17 := below_two HLO.out k17
  have HS17 := HS16.out.later k17
  have HT17 := HT16.out.later k17
  have k1 : Below w16.heap.size w16 (w17.alloc (.cells #[.int .i64 1, .int .i64 1, .int .i64 1, .int .i64 3] 32)) := below_step k17 k18
  have HK18 : Hid (Below w.heap.size w (w17.alloc (.cells #[.int .i64 1, .int .i64 1, .int .i64 1, .int .i64 3] 32))) := below_two HLO.out k1
  have HS18 := HS16.out.later k1
  have HT18 := HT16.out.later k1
  have cx := conv_uv ((owns_lat HX16.out).later k1)
  have cS : ∀ (k : Nat) (v : Value), (#[Value.int .i64 1, Value.int .i64 1, Value.int .i64 1, Value.int .i64 3] : Array Value)[k]? = some v → (w17.alloc (.cells #[.int .i64 1, .int .i64 1, .int .i64 1, .int .i64 3] 32)).cell? ⟨b6, k, none⟩ = some v := fun k v hv => by simp only [World.cell?, show _ = _ from HS18]; exact hv
  have cT : ∀ (k : Nat) (v : Value), (#[Value.int .i64 1, Value.int .i64 1, Value.int .i64 1, Value.int .i64 3] : Array Value)[k]? = some v → (w17.alloc (.cells #[.int .i64 1, .int .i64 1, .int .i64 1, .int .i64 3] 32)).cell? ⟨b11, k, none⟩ = some v := fun k v hv => by simp only [World.cell?, show _ = _ from HT18]; exact hv
  have s0 := cS 0 _ rfl
  have s1 := cS 1 _ rfl
  have s2 := cS 2 _ rfl
  have s3 := cS 3 _ rfl
  have t1 := cT 1 _ rfl
  obtain ⟨xa, xc, rfl⟩ := own_form HX16.out
  obtain ⟨la, lc, rfl⟩ := own_form HL16.out
  obtain ⟨ad, rfl, cl⟩ := lat_cell ((owns_lat HL16.out).later k1)
  unfold sb at cl
  clear k17 k18 HX16 HS16 HT16 HL16 HLO k1 HY16 HC HS18 HT18 HS17 HT17 HK17 cS cT
  go_wp2_with fail
  go_ret
  exact ⟨rfl, HK18.out⟩
end Go.Proofs.Ytjlfhaehdllmcaa
