/- The document's Class of layer 4. -/
import Derived.Test.YtlcnmfgmgiijpaaG42
import Derived.Test.YtlcnmfgmgiijpaaG07
namespace Go.Proofs.Ytlcnmfgmgiijpaa
open Go.RowKit
attribute [local go_sem ↓] Go.wp_at_zero Go.wp_at_succ

theorem rin_lit (s : Oct.S) (f t : Nat) (F T : Int) (hF : F = (f : Nat)) (hT : T = (t : Nat)) (w : World) (hft : f ≤ t) (ht : t < 256) : Calls Try.prog 80 #[setV s, .int .i64 F, .int .i64 T] w fun e w' => e = .returned (setV (Oct.join s (Oct.span f t))) ∧ Below w.heap.size w w' := by
  subst hF hT
  exact rin_any s f t w hft ht
def setUp : Oct.S := Oct.join Oct.none (Oct.span 65 90)
def setLo : Oct.S := Oct.join Oct.none (Oct.span 97 122)
def setDi : Oct.S := Oct.join Oct.none (Oct.span 48 57)
/-- THE STATE behind the three rows: the result and the empty set; capitals, small letters, digits. -/
structure C3 (w u : World) (R S U L D : Nat) : Prop where
  res : SB u R Oct.none
  no : SB u S Oct.none
  up : SB u U setUp
  lo : SB u L setLo
  di : SB u D setDi
  be : Below w.heap.size w u
  hR : w.heap.size ≤ R
theorem C3.later {w u u' : World} {R S U L D : Nat} (h : C3 w u R S U L D) (hb : Below u.heap.size u u') : C3 w u' R S U L D := ⟨h.res.later hb, h.no.later hb, h.up.later hb, h.lo.later hb, h.di.later hb, below_trans h.be hb h.be.size, h.hR⟩
theorem C3.end_ {w u : World} {R S U L D : Nat} (h : C3 w u R S U L D) (x y : Oct.S) (e : ∀ b, b < 256 → x b = y b) {a : Act} {v : Value} (hd : a.defers = []) (ha : a.tmps[2]?.getD undef = .pointer (some ⟨R, 0, none⟩)) (hv : a.tmps[3]?.getD undef = v) : bodyPost Try.prog Try.f74 (fun e w' => e = .returned (.tuple #[setV y, v]) ∧ Below w.heap.size w w') .ret a (put4 u R x) :=
  post_set2 Try.f74 rfl hd ha hv (h.res.put4 x) ⟨by rw [setV_congr e], below_put4 h.be h.hR x⟩

set_option maxRecDepth 4000 in
set_option maxHeartbeats 4000000 in
theorem rclass_upper (w : World) : Calls Try.prog 74 #[.string ⟨#[117, 112, 112, 101, 114]⟩] w fun e w' => e = .returned (.tuple #[setV upper, .bool true]) ∧ Below w.heap.size w w' := by
  obtain ⟨u0, hu0⟩ : ∃ u0, u0 = (w.alloc (.cells #[.int .u64 0, .int .u64 0, .int .u64 0, .int .u64 0] 25)).alloc (.cells #[.int .u64 0, .int .u64 0, .int .u64 0, .int .u64 0] 25) := ⟨_, rfl⟩
  have HS : Hid (St w u0 w.heap.size (w.heap.size + 1) Oct.none) := by rw [hu0]; exact start2 w
  have HU : Hid (u0 = _) := hu0
  clear hu0
  obtain ⟨R, hR⟩ : ∃ R, R = w.heap.size := ⟨_, rfl⟩
  obtain ⟨S, hS⟩ : ∃ S, S = w.heap.size + 1 := ⟨_, rfl⟩
  rw [← hS, ← hR] at HS
  have HRR : Hid (R = _) := hR
  have HSS : Hid (S = _) := hS
  clear hR hS
  go_enter Try.func74, Try.ntmps74
  go_upto_region 2 with fail
  rw [← HU.out, ← HSS.out, ← HRR.out]
  clear HU
  obtain ⟨⟨c0, c1, c2, c3⟩, _, _, _⟩ := HS.out.facts
  go_upto_region 3 with (go_at_call 80; refine (rin_lit Oct.none 65 90 _ _ rfl rfl _ (by decide) (by decide)).mono ?_; rintro e w1 ⟨rfl, hb⟩; have HT0 : Hid (St w w1 R S Oct.none) := (HS.out.later hb); clear hb c0 c1 c2 c3; rw [show Oct.join Oct.none (Oct.span 65 90) = setUp from rfl]; unfold setV)
  have HN0 : Hid (SB (w1.alloc (.cells #[.int .u64 (Oct.word setUp 0 : Nat), .int .u64 (Oct.word setUp 1 : Nat), .int .u64 (Oct.word setUp 2 : Nat), .int .u64 (Oct.word setUp 3 : Nat)] 25)) w1.heap.size setUp) := sb_new w1 setUp
  have HB0 : Hid (Below w1.heap.size w1 (w1.alloc (.cells #[.int .u64 (Oct.word setUp 0 : Nat), .int .u64 (Oct.word setUp 1 : Nat), .int .u64 (Oct.word setUp 2 : Nat), .int .u64 (Oct.word setUp 3 : Nat)] 25))) := (Below.refl _ _).alloc (Nat.le_refl _) _
  obtain ⟨u1, hu1⟩ : ∃ u, u = w1.alloc (.cells #[.int .u64 (Oct.word setUp 0 : Nat), .int .u64 (Oct.word setUp 1 : Nat), .int .u64 (Oct.word setUp 2 : Nat), .int .u64 (Oct.word setUp 3 : Nat)] 25) := ⟨_, rfl⟩
  obtain ⟨U, hU⟩ : ∃ A, A = w1.heap.size := ⟨_, rfl⟩
  rw [← hu1] at HN0 HB0 ⊢
  rw [← hU] at HN0 ⊢
  have HS0 : Hid (St w u1 R S Oct.none) := HT0.out.later HB0.out
  clear hu1 hU HB0 HT0 
  obtain ⟨⟨c0, c1, c2, c3⟩, _, _, _⟩ := HS0.out.facts
  go_upto_region 4 with (go_at_call 80; refine (rin_lit Oct.none 97 122 _ _ rfl rfl _ (by decide) (by decide)).mono ?_; rintro e w2 ⟨rfl, hb⟩; have HT1 : Hid (St w w2 R S Oct.none) := (HS0.out.later hb); have HKU1 : Hid (SB w2 U setUp) := (HN0.out.later hb); clear hb c0 c1 c2 c3; rw [show Oct.join Oct.none (Oct.span 97 122) = setLo from rfl]; unfold setV)
  have HN1 : Hid (SB (w2.alloc (.cells #[.int .u64 (Oct.word setLo 0 : Nat), .int .u64 (Oct.word setLo 1 : Nat), .int .u64 (Oct.word setLo 2 : Nat), .int .u64 (Oct.word setLo 3 : Nat)] 25)) w2.heap.size setLo) := sb_new w2 setLo
  have HB1 : Hid (Below w2.heap.size w2 (w2.alloc (.cells #[.int .u64 (Oct.word setLo 0 : Nat), .int .u64 (Oct.word setLo 1 : Nat), .int .u64 (Oct.word setLo 2 : Nat), .int .u64 (Oct.word setLo 3 : Nat)] 25))) := (Below.refl _ _).alloc (Nat.le_refl _) _
  obtain ⟨u2, hu2⟩ : ∃ u, u = w2.alloc (.cells #[.int .u64 (Oct.word setLo 0 : Nat), .int .u64 (Oct.word setLo 1 : Nat), .int .u64 (Oct.word setLo 2 : Nat), .int .u64 (Oct.word setLo 3 : Nat)] 25) := ⟨_, rfl⟩
  obtain ⟨L, hL⟩ : ∃ A, A = w2.heap.size := ⟨_, rfl⟩
  rw [← hu2] at HN1 HB1 ⊢
  rw [← hL] at HN1 ⊢
  have HS1 : Hid (St w u2 R S Oct.none) := HT1.out.later HB1.out
  have HLU1 : Hid (SB u2 U setUp) := HKU1.out.later HB1.out
  clear hu2 hL HB1 HT1 HKU1
  obtain ⟨⟨c0, c1, c2, c3⟩, _, _, _⟩ := HS1.out.facts
  go_upto_region 5 with (go_at_call 80; refine (rin_lit Oct.none 48 57 _ _ rfl rfl _ (by decide) (by decide)).mono ?_; rintro e w3 ⟨rfl, hb⟩; have HT2 : Hid (St w w3 R S Oct.none) := (HS1.out.later hb); have HKU2 : Hid (SB w3 U setUp) := (HLU1.out.later hb); have HKL2 : Hid (SB w3 L setLo) := (HN1.out.later hb); clear hb c0 c1 c2 c3; rw [show Oct.join Oct.none (Oct.span 48 57) = setDi from rfl]; unfold setV)
  have HN2 : Hid (SB (w3.alloc (.cells #[.int .u64 (Oct.word setDi 0 : Nat), .int .u64 (Oct.word setDi 1 : Nat), .int .u64 (Oct.word setDi 2 : Nat), .int .u64 (Oct.word setDi 3 : Nat)] 25)) w3.heap.size setDi) := sb_new w3 setDi
  have HB2 : Hid (Below w3.heap.size w3 (w3.alloc (.cells #[.int .u64 (Oct.word setDi 0 : Nat), .int .u64 (Oct.word setDi 1 : Nat), .int .u64 (Oct.word setDi 2 : Nat), .int .u64 (Oct.word setDi 3 : Nat)] 25))) := (Below.refl _ _).alloc (Nat.le_refl _) _
  obtain ⟨u3, hu3⟩ : ∃ u, u = w3.alloc (.cells #[.int .u64 (Oct.word setDi 0 : Nat), .int .u64 (Oct.word setDi 1 : Nat), .int .u64 (Oct.word setDi 2 : Nat), .int .u64 (Oct.word setDi 3 : Nat)] 25) := ⟨_, rfl⟩
  obtain ⟨D, hD⟩ : ∃ A, A = w3.heap.size := ⟨_, rfl⟩
  rw [← hu3] at HN2 HB2 ⊢
  rw [← hD] at HN2 ⊢
  have HS2 : Hid (St w u3 R S Oct.none) := HT2.out.later HB2.out
  have HLU2 : Hid (SB u3 U setUp) := HKU2.out.later HB2.out
  have HLL2 : Hid (SB u3 L setLo) := HKL2.out.later HB2.out
  clear hu3 hD HB2 HT2 HKU2 HKL2
  have H3 : Hid (C3 w u3 R S U L D) := ⟨HS2.out.1, HS2.out.2.1, HLU2.out, HLL2.out, HN2.out, HS2.out.2.2, by rw [HRR.out]; exact Nat.le_refl _⟩
  clear HS HS0 HS1 HS2 HLU2 HLL2 HN2 HRR HSS
  obtain ⟨c0, c1, c2, c3⟩ := H3.out.up.cells
  obtain ⟨d0, d1, d2, d3⟩ := H3.out.res.cells
  have g0 := H3.out.res.frozen 0
  have g1 := H3.out.res.frozen 1
  have g2 := H3.out.res.frozen 2
  have g3 := H3.out.res.frozen 3
  go_wp2
  exact H3.out.end_ setUp _ (by decide +kernel) rfl rfl rfl

set_option maxRecDepth 4000 in
set_option maxHeartbeats 4000000 in
theorem rclass_lower (w : World) : Calls Try.prog 74 #[.string ⟨#[108, 111, 119, 101, 114]⟩] w fun e w' => e = .returned (.tuple #[setV lower, .bool true]) ∧ Below w.heap.size w w' := by
  obtain ⟨u0, hu0⟩ : ∃ u0, u0 = (w.alloc (.cells #[.int .u64 0, .int .u64 0, .int .u64 0, .int .u64 0] 25)).alloc (.cells #[.int .u64 0, .int .u64 0, .int .u64 0, .int .u64 0] 25) := ⟨_, rfl⟩
  have HS : Hid (St w u0 w.heap.size (w.heap.size + 1) Oct.none) := by rw [hu0]; exact start2 w
  have HU : Hid (u0 = _) := hu0
  clear hu0
  obtain ⟨R, hR⟩ : ∃ R, R = w.heap.size := ⟨_, rfl⟩
  obtain ⟨S, hS⟩ : ∃ S, S = w.heap.size + 1 := ⟨_, rfl⟩
  rw [← hS, ← hR] at HS
  have HRR : Hid (R = _) := hR
  have HSS : Hid (S = _) := hS
  clear hR hS
  go_enter Try.func74, Try.ntmps74
  go_upto_region 2 with fail
  rw [← HU.out, ← HSS.out, ← HRR.out]
  clear HU
  obtain ⟨⟨c0, c1, c2, c3⟩, _, _, _⟩ := HS.out.facts
  go_upto_region 3 with (go_at_call 80; refine (rin_lit Oct.none 65 90 _ _ rfl rfl _ (by decide) (by decide)).mono ?_; rintro e w1 ⟨rfl, hb⟩; have HT0 : Hid (St w w1 R S Oct.none) := (HS.out.later hb); clear hb c0 c1 c2 c3; rw [show Oct.join Oct.none (Oct.span 65 90) = setUp from rfl]; unfold setV)
  have HN0 : Hid (SB (w1.alloc (.cells #[.int .u64 (Oct.word setUp 0 : Nat), .int .u64 (Oct.word setUp 1 : Nat), .int .u64 (Oct.word setUp 2 : Nat), .int .u64 (Oct.word setUp 3 : Nat)] 25)) w1.heap.size setUp) := sb_new w1 setUp
  have HB0 : Hid (Below w1.heap.size w1 (w1.alloc (.cells #[.int .u64 (Oct.word setUp 0 : Nat), .int .u64 (Oct.word setUp 1 : Nat), .int .u64 (Oct.word setUp 2 : Nat), .int .u64 (Oct.word setUp 3 : Nat)] 25))) := (Below.refl _ _).alloc (Nat.le_refl _) _
  obtain ⟨u1, hu1⟩ : ∃ u, u = w1.alloc (.cells #[.int .u64 (Oct.word setUp 0 : Nat), .int .u64 (Oct.word setUp 1 : Nat), .int .u64 (Oct.word setUp 2 : Nat), .int .u64 (Oct.word setUp 3 : Nat)] 25) := ⟨_, rfl⟩
  obtain ⟨U, hU⟩ : ∃ A, A = w1.heap.size := ⟨_, rfl⟩
  rw [← hu1] at HN0 HB0 ⊢
  rw [← hU] at HN0 ⊢
  have HS0 : Hid (St w u1 R S Oct.none) := HT0.out.later HB0.out
  clear hu1 hU HB0 HT0 
  obtain ⟨⟨c0, c1, c2, c3⟩, _, _, _⟩ := HS0.out.facts
  go_upto_region 4 with (go_at_call 80; refine (rin_lit Oct.none 97 122 _ _ rfl rfl _ (by decide) (by decide)).mono ?_; rintro e w2 ⟨rfl, hb⟩; have HT1 : Hid (St w w2 R S Oct.none) := (HS0.out.later hb); have HKU1 : Hid (SB w2 U setUp) := (HN0.out.later hb); clear hb c0 c1 c2 c3; rw [show Oct.join Oct.none (Oct.span 97 122) = setLo from rfl]; unfold setV)
  have HN1 : Hid (SB (w2.alloc (.cells #[.int .u64 (Oct.word setLo 0 : Nat), .int .u64 (Oct.word setLo 1 : Nat), .int .u64 (Oct.word setLo 2 : Nat), .int .u64 (Oct.word setLo 3 : Nat)] 25)) w2.heap.size setLo) := sb_new w2 setLo
  have HB1 : Hid (Below w2.heap.size w2 (w2.alloc (.cells #[.int .u64 (Oct.word setLo 0 : Nat), .int .u64 (Oct.word setLo 1 : Nat), .int .u64 (Oct.word setLo 2 : Nat), .int .u64 (Oct.word setLo 3 : Nat)] 25))) := (Below.refl _ _).alloc (Nat.le_refl _) _
  obtain ⟨u2, hu2⟩ : ∃ u, u = w2.alloc (.cells #[.int .u64 (Oct.word setLo 0 : Nat), .int .u64 (Oct.word setLo 1 : Nat), .int .u64 (Oct.word setLo 2 : Nat), .int .u64 (Oct.word setLo 3 : Nat)] 25) := ⟨_, rfl⟩
  obtain ⟨L, hL⟩ : ∃ A, A = w2.heap.size := ⟨_, rfl⟩
  rw [← hu2] at HN1 HB1 ⊢
  rw [← hL] at HN1 ⊢
  have HS1 : Hid (St w u2 R S Oct.none) := HT1.out.later HB1.out
  have HLU1 : Hid (SB u2 U setUp) := HKU1.out.later HB1.out
  clear hu2 hL HB1 HT1 HKU1
  obtain ⟨⟨c0, c1, c2, c3⟩, _, _, _⟩ := HS1.out.facts
  go_upto_region 5 with (go_at_call 80; refine (rin_lit Oct.none 48 57 _ _ rfl rfl _ (by decide) (by decide)).mono ?_; rintro e w3 ⟨rfl, hb⟩; have HT2 : Hid (St w w3 R S Oct.none) := (HS1.out.later hb); have HKU2 : Hid (SB w3 U setUp) := (HLU1.out.later hb); have HKL2 : Hid (SB w3 L setLo) := (HN1.out.later hb); clear hb c0 c1 c2 c3; rw [show Oct.join Oct.none (Oct.span 48 57) = setDi from rfl]; unfold setV)
  have HN2 : Hid (SB (w3.alloc (.cells #[.int .u64 (Oct.word setDi 0 : Nat), .int .u64 (Oct.word setDi 1 : Nat), .int .u64 (Oct.word setDi 2 : Nat), .int .u64 (Oct.word setDi 3 : Nat)] 25)) w3.heap.size setDi) := sb_new w3 setDi
  have HB2 : Hid (Below w3.heap.size w3 (w3.alloc (.cells #[.int .u64 (Oct.word setDi 0 : Nat), .int .u64 (Oct.word setDi 1 : Nat), .int .u64 (Oct.word setDi 2 : Nat), .int .u64 (Oct.word setDi 3 : Nat)] 25))) := (Below.refl _ _).alloc (Nat.le_refl _) _
  obtain ⟨u3, hu3⟩ : ∃ u, u = w3.alloc (.cells #[.int .u64 (Oct.word setDi 0 : Nat), .int .u64 (Oct.word setDi 1 : Nat), .int .u64 (Oct.word setDi 2 : Nat), .int .u64 (Oct.word setDi 3 : Nat)] 25) := ⟨_, rfl⟩
  obtain ⟨D, hD⟩ : ∃ A, A = w3.heap.size := ⟨_, rfl⟩
  rw [← hu3] at HN2 HB2 ⊢
  rw [← hD] at HN2 ⊢
  have HS2 : Hid (St w u3 R S Oct.none) := HT2.out.later HB2.out
  have HLU2 : Hid (SB u3 U setUp) := HKU2.out.later HB2.out
  have HLL2 : Hid (SB u3 L setLo) := HKL2.out.later HB2.out
  clear hu3 hD HB2 HT2 HKU2 HKL2
  have H3 : Hid (C3 w u3 R S U L D) := ⟨HS2.out.1, HS2.out.2.1, HLU2.out, HLL2.out, HN2.out, HS2.out.2.2, by rw [HRR.out]; exact Nat.le_refl _⟩
  clear HS HS0 HS1 HS2 HLU2 HLL2 HN2 HRR HSS
  obtain ⟨c0, c1, c2, c3⟩ := H3.out.lo.cells
  obtain ⟨d0, d1, d2, d3⟩ := H3.out.res.cells
  have g0 := H3.out.res.frozen 0
  have g1 := H3.out.res.frozen 1
  have g2 := H3.out.res.frozen 2
  have g3 := H3.out.res.frozen 3
  go_wp2
  exact H3.out.end_ setLo _ (by decide +kernel) rfl rfl rfl

set_option maxRecDepth 4000 in
set_option maxHeartbeats 4000000 in
theorem rclass_digit (w : World) : Calls Try.prog 74 #[.string ⟨#[100, 105, 103, 105, 116]⟩] w fun e w' => e = .returned (.tuple #[setV digit, .bool true]) ∧ Below w.heap.size w w' := by
  obtain ⟨u0, hu0⟩ : ∃ u0, u0 = (w.alloc (.cells #[.int .u64 0, .int .u64 0, .int .u64 0, .int .u64 0] 25)).alloc (.cells #[.int .u64 0, .int .u64 0, .int .u64 0, .int .u64 0] 25) := ⟨_, rfl⟩
  have HS : Hid (St w u0 w.heap.size (w.heap.size + 1) Oct.none) := by rw [hu0]; exact start2 w
  have HU : Hid (u0 = _) := hu0
  clear hu0
  obtain ⟨R, hR⟩ : ∃ R, R = w.heap.size := ⟨_, rfl⟩
  obtain ⟨S, hS⟩ : ∃ S, S = w.heap.size + 1 := ⟨_, rfl⟩
  rw [← hS, ← hR] at HS
  have HRR : Hid (R = _) := hR
  have HSS : Hid (S = _) := hS
  clear hR hS
  go_enter Try.func74, Try.ntmps74
  go_upto_region 2 with fail
  rw [← HU.out, ← HSS.out, ← HRR.out]
  clear HU
  obtain ⟨⟨c0, c1, c2, c3⟩, _, _, _⟩ := HS.out.facts
  go_upto_region 3 with (go_at_call 80; refine (rin_lit Oct.none 65 90 _ _ rfl rfl _ (by decide) (by decide)).mono ?_; rintro e w1 ⟨rfl, hb⟩; have HT0 : Hid (St w w1 R S Oct.none) := (HS.out.later hb); clear hb c0 c1 c2 c3; rw [show Oct.join Oct.none (Oct.span 65 90) = setUp from rfl]; unfold setV)
  have HN0 : Hid (SB (w1.alloc (.cells #[.int .u64 (Oct.word setUp 0 : Nat), .int .u64 (Oct.word setUp 1 : Nat), .int .u64 (Oct.word setUp 2 : Nat), .int .u64 (Oct.word setUp 3 : Nat)] 25)) w1.heap.size setUp) := sb_new w1 setUp
  have HB0 : Hid (Below w1.heap.size w1 (w1.alloc (.cells #[.int .u64 (Oct.word setUp 0 : Nat), .int .u64 (Oct.word setUp 1 : Nat), .int .u64 (Oct.word setUp 2 : Nat), .int .u64 (Oct.word setUp 3 : Nat)] 25))) := (Below.refl _ _).alloc (Nat.le_refl _) _
  obtain ⟨u1, hu1⟩ : ∃ u, u = w1.alloc (.cells #[.int .u64 (Oct.word setUp 0 : Nat), .int .u64 (Oct.word setUp 1 : Nat), .int .u64 (Oct.word setUp 2 : Nat), .int .u64 (Oct.word setUp 3 : Nat)] 25) := ⟨_, rfl⟩
  obtain ⟨U, hU⟩ : ∃ A, A = w1.heap.size := ⟨_, rfl⟩
  rw [← hu1] at HN0 HB0 ⊢
  rw [← hU] at HN0 ⊢
  have HS0 : Hid (St w u1 R S Oct.none) := HT0.out.later HB0.out
  clear hu1 hU HB0 HT0 
  obtain ⟨⟨c0, c1, c2, c3⟩, _, _, _⟩ := HS0.out.facts
  go_upto_region 4 with (go_at_call 80; refine (rin_lit Oct.none 97 122 _ _ rfl rfl _ (by decide) (by decide)).mono ?_; rintro e w2 ⟨rfl, hb⟩; have HT1 : Hid (St w w2 R S Oct.none) := (HS0.out.later hb); have HKU1 : Hid (SB w2 U setUp) := (HN0.out.later hb); clear hb c0 c1 c2 c3; rw [show Oct.join Oct.none (Oct.span 97 122) = setLo from rfl]; unfold setV)
  have HN1 : Hid (SB (w2.alloc (.cells #[.int .u64 (Oct.word setLo 0 : Nat), .int .u64 (Oct.word setLo 1 : Nat), .int .u64 (Oct.word setLo 2 : Nat), .int .u64 (Oct.word setLo 3 : Nat)] 25)) w2.heap.size setLo) := sb_new w2 setLo
  have HB1 : Hid (Below w2.heap.size w2 (w2.alloc (.cells #[.int .u64 (Oct.word setLo 0 : Nat), .int .u64 (Oct.word setLo 1 : Nat), .int .u64 (Oct.word setLo 2 : Nat), .int .u64 (Oct.word setLo 3 : Nat)] 25))) := (Below.refl _ _).alloc (Nat.le_refl _) _
  obtain ⟨u2, hu2⟩ : ∃ u, u = w2.alloc (.cells #[.int .u64 (Oct.word setLo 0 : Nat), .int .u64 (Oct.word setLo 1 : Nat), .int .u64 (Oct.word setLo 2 : Nat), .int .u64 (Oct.word setLo 3 : Nat)] 25) := ⟨_, rfl⟩
  obtain ⟨L, hL⟩ : ∃ A, A = w2.heap.size := ⟨_, rfl⟩
  rw [← hu2] at HN1 HB1 ⊢
  rw [← hL] at HN1 ⊢
  have HS1 : Hid (St w u2 R S Oct.none) := HT1.out.later HB1.out
  have HLU1 : Hid (SB u2 U setUp) := HKU1.out.later HB1.out
  clear hu2 hL HB1 HT1 HKU1
  obtain ⟨⟨c0, c1, c2, c3⟩, _, _, _⟩ := HS1.out.facts
  go_upto_region 5 with (go_at_call 80; refine (rin_lit Oct.none 48 57 _ _ rfl rfl _ (by decide) (by decide)).mono ?_; rintro e w3 ⟨rfl, hb⟩; have HT2 : Hid (St w w3 R S Oct.none) := (HS1.out.later hb); have HKU2 : Hid (SB w3 U setUp) := (HLU1.out.later hb); have HKL2 : Hid (SB w3 L setLo) := (HN1.out.later hb); clear hb c0 c1 c2 c3; rw [show Oct.join Oct.none (Oct.span 48 57) = setDi from rfl]; unfold setV)
  have HN2 : Hid (SB (w3.alloc (.cells #[.int .u64 (Oct.word setDi 0 : Nat), .int .u64 (Oct.word setDi 1 : Nat), .int .u64 (Oct.word setDi 2 : Nat), .int .u64 (Oct.word setDi 3 : Nat)] 25)) w3.heap.size setDi) := sb_new w3 setDi
  have HB2 : Hid (Below w3.heap.size w3 (w3.alloc (.cells #[.int .u64 (Oct.word setDi 0 : Nat), .int .u64 (Oct.word setDi 1 : Nat), .int .u64 (Oct.word setDi 2 : Nat), .int .u64 (Oct.word setDi 3 : Nat)] 25))) := (Below.refl _ _).alloc (Nat.le_refl _) _
  obtain ⟨u3, hu3⟩ : ∃ u, u = w3.alloc (.cells #[.int .u64 (Oct.word setDi 0 : Nat), .int .u64 (Oct.word setDi 1 : Nat), .int .u64 (Oct.word setDi 2 : Nat), .int .u64 (Oct.word setDi 3 : Nat)] 25) := ⟨_, rfl⟩
  obtain ⟨D, hD⟩ : ∃ A, A = w3.heap.size := ⟨_, rfl⟩
  rw [← hu3] at HN2 HB2 ⊢
  rw [← hD] at HN2 ⊢
  have HS2 : Hid (St w u3 R S Oct.none) := HT2.out.later HB2.out
  have HLU2 : Hid (SB u3 U setUp) := HKU2.out.later HB2.out
  have HLL2 : Hid (SB u3 L setLo) := HKL2.out.later HB2.out
  clear hu3 hD HB2 HT2 HKU2 HKL2
  have H3 : Hid (C3 w u3 R S U L D) := ⟨HS2.out.1, HS2.out.2.1, HLU2.out, HLL2.out, HN2.out, HS2.out.2.2, by rw [HRR.out]; exact Nat.le_refl _⟩
  clear HS HS0 HS1 HS2 HLU2 HLL2 HN2 HRR HSS
  obtain ⟨c0, c1, c2, c3⟩ := H3.out.di.cells
  obtain ⟨d0, d1, d2, d3⟩ := H3.out.res.cells
  have g0 := H3.out.res.frozen 0
  have g1 := H3.out.res.frozen 1
  have g2 := H3.out.res.frozen 2
  have g3 := H3.out.res.frozen 3
  go_wp2
  exact H3.out.end_ setDi _ (by decide +kernel) rfl rfl rfl

set_option maxRecDepth 4000 in
set_option maxHeartbeats 4000000 in
theorem rclass_alpha (w : World) : Calls Try.prog 74 #[.string ⟨#[97, 108, 112, 104, 97]⟩] w fun e w' => e = .returned (.tuple #[setV alpha, .bool true]) ∧ Below w.heap.size w w' := by
  obtain ⟨u0, hu0⟩ : ∃ u0, u0 = (w.alloc (.cells #[.int .u64 0, .int .u64 0, .int .u64 0, .int .u64 0] 25)).alloc (.cells #[.int .u64 0, .int .u64 0, .int .u64 0, .int .u64 0] 25) := ⟨_, rfl⟩
  have HS : Hid (St w u0 w.heap.size (w.heap.size + 1) Oct.none) := by rw [hu0]; exact start2 w
  have HU : Hid (u0 = _) := hu0
  clear hu0
  obtain ⟨R, hR⟩ : ∃ R, R = w.heap.size := ⟨_, rfl⟩
  obtain ⟨S, hS⟩ : ∃ S, S = w.heap.size + 1 := ⟨_, rfl⟩
  rw [← hS, ← hR] at HS
  have HRR : Hid (R = _) := hR
  have HSS : Hid (S = _) := hS
  clear hR hS
  go_enter Try.func74, Try.ntmps74
  go_upto_region 2 with fail
  rw [← HU.out, ← HSS.out, ← HRR.out]
  clear HU
  obtain ⟨⟨c0, c1, c2, c3⟩, _, _, _⟩ := HS.out.facts
  go_upto_region 3 with (go_at_call 80; refine (rin_lit Oct.none 65 90 _ _ rfl rfl _ (by decide) (by decide)).mono ?_; rintro e w1 ⟨rfl, hb⟩; have HT0 : Hid (St w w1 R S Oct.none) := (HS.out.later hb); clear hb c0 c1 c2 c3; rw [show Oct.join Oct.none (Oct.span 65 90) = setUp from rfl]; unfold setV)
  have HN0 : Hid (SB (w1.alloc (.cells #[.int .u64 (Oct.word setUp 0 : Nat), .int .u64 (Oct.word setUp 1 : Nat), .int .u64 (Oct.word setUp 2 : Nat), .int .u64 (Oct.word setUp 3 : Nat)] 25)) w1.heap.size setUp) := sb_new w1 setUp
  have HB0 : Hid (Below w1.heap.size w1 (w1.alloc (.cells #[.int .u64 (Oct.word setUp 0 : Nat), .int .u64 (Oct.word setUp 1 : Nat), .int .u64 (Oct.word setUp 2 : Nat), .int .u64 (Oct.word setUp 3 : Nat)] 25))) := (Below.refl _ _).alloc (Nat.le_refl _) _
  obtain ⟨u1, hu1⟩ : ∃ u, u = w1.alloc (.cells #[.int .u64 (Oct.word setUp 0 : Nat), .int .u64 (Oct.word setUp 1 : Nat), .int .u64 (Oct.word setUp 2 : Nat), .int .u64 (Oct.word setUp 3 : Nat)] 25) := ⟨_, rfl⟩
  obtain ⟨U, hU⟩ : ∃ A, A = w1.heap.size := ⟨_, rfl⟩
  rw [← hu1] at HN0 HB0 ⊢
  rw [← hU] at HN0 ⊢
  have HS0 : Hid (St w u1 R S Oct.none) := HT0.out.later HB0.out
  clear hu1 hU HB0 HT0 
  obtain ⟨⟨c0, c1, c2, c3⟩, _, _, _⟩ := HS0.out.facts
  go_upto_region 4 with (go_at_call 80; refine (rin_lit Oct.none 97 122 _ _ rfl rfl _ (by decide) (by decide)).mono ?_; rintro e w2 ⟨rfl, hb⟩; have HT1 : Hid (St w w2 R S Oct.none) := (HS0.out.later hb); have HKU1 : Hid (SB w2 U setUp) := (HN0.out.later hb); clear hb c0 c1 c2 c3; rw [show Oct.join Oct.none (Oct.span 97 122) = setLo from rfl]; unfold setV)
  have HN1 : Hid (SB (w2.alloc (.cells #[.int .u64 (Oct.word setLo 0 : Nat), .int .u64 (Oct.word setLo 1 : Nat), .int .u64 (Oct.word setLo 2 : Nat), .int .u64 (Oct.word setLo 3 : Nat)] 25)) w2.heap.size setLo) := sb_new w2 setLo
  have HB1 : Hid (Below w2.heap.size w2 (w2.alloc (.cells #[.int .u64 (Oct.word setLo 0 : Nat), .int .u64 (Oct.word setLo 1 : Nat), .int .u64 (Oct.word setLo 2 : Nat), .int .u64 (Oct.word setLo 3 : Nat)] 25))) := (Below.refl _ _).alloc (Nat.le_refl _) _
  obtain ⟨u2, hu2⟩ : ∃ u, u = w2.alloc (.cells #[.int .u64 (Oct.word setLo 0 : Nat), .int .u64 (Oct.word setLo 1 : Nat), .int .u64 (Oct.word setLo 2 : Nat), .int .u64 (Oct.word setLo 3 : Nat)] 25) := ⟨_, rfl⟩
  obtain ⟨L, hL⟩ : ∃ A, A = w2.heap.size := ⟨_, rfl⟩
  rw [← hu2] at HN1 HB1 ⊢
  rw [← hL] at HN1 ⊢
  have HS1 : Hid (St w u2 R S Oct.none) := HT1.out.later HB1.out
  have HLU1 : Hid (SB u2 U setUp) := HKU1.out.later HB1.out
  clear hu2 hL HB1 HT1 HKU1
  obtain ⟨⟨c0, c1, c2, c3⟩, _, _, _⟩ := HS1.out.facts
  go_upto_region 5 with (go_at_call 80; refine (rin_lit Oct.none 48 57 _ _ rfl rfl _ (by decide) (by decide)).mono ?_; rintro e w3 ⟨rfl, hb⟩; have HT2 : Hid (St w w3 R S Oct.none) := (HS1.out.later hb); have HKU2 : Hid (SB w3 U setUp) := (HLU1.out.later hb); have HKL2 : Hid (SB w3 L setLo) := (HN1.out.later hb); clear hb c0 c1 c2 c3; rw [show Oct.join Oct.none (Oct.span 48 57) = setDi from rfl]; unfold setV)
  have HN2 : Hid (SB (w3.alloc (.cells #[.int .u64 (Oct.word setDi 0 : Nat), .int .u64 (Oct.word setDi 1 : Nat), .int .u64 (Oct.word setDi 2 : Nat), .int .u64 (Oct.word setDi 3 : Nat)] 25)) w3.heap.size setDi) := sb_new w3 setDi
  have HB2 : Hid (Below w3.heap.size w3 (w3.alloc (.cells #[.int .u64 (Oct.word setDi 0 : Nat), .int .u64 (Oct.word setDi 1 : Nat), .int .u64 (Oct.word setDi 2 : Nat), .int .u64 (Oct.word setDi 3 : Nat)] 25))) := (Below.refl _ _).alloc (Nat.le_refl _) _
  obtain ⟨u3, hu3⟩ : ∃ u, u = w3.alloc (.cells #[.int .u64 (Oct.word setDi 0 : Nat), .int .u64 (Oct.word setDi 1 : Nat), .int .u64 (Oct.word setDi 2 : Nat), .int .u64 (Oct.word setDi 3 : Nat)] 25) := ⟨_, rfl⟩
  obtain ⟨D, hD⟩ : ∃ A, A = w3.heap.size := ⟨_, rfl⟩
  rw [← hu3] at HN2 HB2 ⊢
  rw [← hD] at HN2 ⊢
  have HS2 : Hid (St w u3 R S Oct.none) := HT2.out.later HB2.out
  have HLU2 : Hid (SB u3 U setUp) := HKU2.out.later HB2.out
  have HLL2 : Hid (SB u3 L setLo) := HKL2.out.later HB2.out
  clear hu3 hD HB2 HT2 HKU2 HKL2
  have H3 : Hid (C3 w u3 R S U L D) := ⟨HS2.out.1, HS2.out.2.1, HLU2.out, HLL2.out, HN2.out, HS2.out.2.2, by rw [HRR.out]; exact Nat.le_refl _⟩
  clear HS HS0 HS1 HS2 HLU2 HLL2 HN2 HRR HSS
  obtain ⟨c0, c1, c2, c3⟩ := H3.out.up.cells
  go_wp2_with fail
  refine (rin_lit setUp 97 122 _ _ rfl rfl _ (by decide) (by decide)).mono ?_
  rintro e v0 ⟨rfl, hb⟩
  have HX0 : Hid (C3 w v0 R S U L D) := H3.out.later hb
  clear hb
  unfold setV
  clear c0 c1 c2 c3
  obtain ⟨d0, d1, d2, d3⟩ := HX0.out.res.cells
  have g0 := HX0.out.res.frozen 0
  have g1 := HX0.out.res.frozen 1
  have g2 := HX0.out.res.frozen 2
  have g3 := HX0.out.res.frozen 3
  go_wp2
  exact HX0.out.end_ (Oct.join setUp (Oct.span 97 122)) _ (by decide +kernel) rfl rfl rfl

set_option maxRecDepth 4000 in
set_option maxHeartbeats 4000000 in
theorem rclass_alnum (w : World) : Calls Try.prog 74 #[.string ⟨#[97, 108, 110, 117, 109]⟩] w fun e w' => e = .returned (.tuple #[setV alnum, .bool true]) ∧ Below w.heap.size w w' := by
  obtain ⟨u0, hu0⟩ : ∃ u0, u0 = (w.alloc (.cells #[.int .u64 0, .int .u64 0, .int .u64 0, .int .u64 0] 25)).alloc (.cells #[.int .u64 0, .int .u64 0, .int .u64 0, .int .u64 0] 25) := ⟨_, rfl⟩
  have HS : Hid (St w u0 w.heap.size (w.heap.size + 1) Oct.none) := by rw [hu0]; exact start2 w
  have HU : Hid (u0 = _) := hu0
  clear hu0
  obtain ⟨R, hR⟩ : ∃ R, R = w.heap.size := ⟨_, rfl⟩
  obtain ⟨S, hS⟩ : ∃ S, S = w.heap.size + 1 := ⟨_, rfl⟩
  rw [← hS, ← hR] at HS
  have HRR : Hid (R = _) := hR
  have HSS : Hid (S = _) := hS
  clear hR hS
  go_enter Try.func74, Try.ntmps74
  go_upto_region 2 with fail
  rw [← HU.out, ← HSS.out, ← HRR.out]
  clear HU
  obtain ⟨⟨c0, c1, c2, c3⟩, _, _, _⟩ := HS.out.facts
  go_upto_region 3 with (go_at_call 80; refine (rin_lit Oct.none 65 90 _ _ rfl rfl _ (by decide) (by decide)).mono ?_; rintro e w1 ⟨rfl, hb⟩; have HT0 : Hid (St w w1 R S Oct.none) := (HS.out.later hb); clear hb c0 c1 c2 c3; rw [show Oct.join Oct.none (Oct.span 65 90) = setUp from rfl]; unfold setV)
  have HN0 : Hid (SB (w1.alloc (.cells #[.int .u64 (Oct.word setUp 0 : Nat), .int .u64 (Oct.word setUp 1 : Nat), .int .u64 (Oct.word setUp 2 : Nat), .int .u64 (Oct.word setUp 3 : Nat)] 25)) w1.heap.size setUp) := sb_new w1 setUp
  have HB0 : Hid (Below w1.heap.size w1 (w1.alloc (.cells #[.int .u64 (Oct.word setUp 0 : Nat), .int .u64 (Oct.word setUp 1 : Nat), .int .u64 (Oct.word setUp 2 : Nat), .int .u64 (Oct.word setUp 3 : Nat)] 25))) := (Below.refl _ _).alloc (Nat.le_refl _) _
  obtain ⟨u1, hu1⟩ : ∃ u, u = w1.alloc (.cells #[.int .u64 (Oct.word setUp 0 : Nat), .int .u64 (Oct.word setUp 1 : Nat), .int .u64 (Oct.word setUp 2 : Nat), .int .u64 (Oct.word setUp 3 : Nat)] 25) := ⟨_, rfl⟩
  obtain ⟨U, hU⟩ : ∃ A, A = w1.heap.size := ⟨_, rfl⟩
  rw [← hu1] at HN0 HB0 ⊢
  rw [← hU] at HN0 ⊢
  have HS0 : Hid (St w u1 R S Oct.none) := HT0.out.later HB0.out
  clear hu1 hU HB0 HT0 
  obtain ⟨⟨c0, c1, c2, c3⟩, _, _, _⟩ := HS0.out.facts
  go_upto_region 4 with (go_at_call 80; refine (rin_lit Oct.none 97 122 _ _ rfl rfl _ (by decide) (by decide)).mono ?_; rintro e w2 ⟨rfl, hb⟩; have HT1 : Hid (St w w2 R S Oct.none) := (HS0.out.later hb); have HKU1 : Hid (SB w2 U setUp) := (HN0.out.later hb); clear hb c0 c1 c2 c3; rw [show Oct.join Oct.none (Oct.span 97 122) = setLo from rfl]; unfold setV)
  have HN1 : Hid (SB (w2.alloc (.cells #[.int .u64 (Oct.word setLo 0 : Nat), .int .u64 (Oct.word setLo 1 : Nat), .int .u64 (Oct.word setLo 2 : Nat), .int .u64 (Oct.word setLo 3 : Nat)] 25)) w2.heap.size setLo) := sb_new w2 setLo
  have HB1 : Hid (Below w2.heap.size w2 (w2.alloc (.cells #[.int .u64 (Oct.word setLo 0 : Nat), .int .u64 (Oct.word setLo 1 : Nat), .int .u64 (Oct.word setLo 2 : Nat), .int .u64 (Oct.word setLo 3 : Nat)] 25))) := (Below.refl _ _).alloc (Nat.le_refl _) _
  obtain ⟨u2, hu2⟩ : ∃ u, u = w2.alloc (.cells #[.int .u64 (Oct.word setLo 0 : Nat), .int .u64 (Oct.word setLo 1 : Nat), .int .u64 (Oct.word setLo 2 : Nat), .int .u64 (Oct.word setLo 3 : Nat)] 25) := ⟨_, rfl⟩
  obtain ⟨L, hL⟩ : ∃ A, A = w2.heap.size := ⟨_, rfl⟩
  rw [← hu2] at HN1 HB1 ⊢
  rw [← hL] at HN1 ⊢
  have HS1 : Hid (St w u2 R S Oct.none) := HT1.out.later HB1.out
  have HLU1 : Hid (SB u2 U setUp) := HKU1.out.later HB1.out
  clear hu2 hL HB1 HT1 HKU1
  obtain ⟨⟨c0, c1, c2, c3⟩, _, _, _⟩ := HS1.out.facts
  go_upto_region 5 with (go_at_call 80; refine (rin_lit Oct.none 48 57 _ _ rfl rfl _ (by decide) (by decide)).mono ?_; rintro e w3 ⟨rfl, hb⟩; have HT2 : Hid (St w w3 R S Oct.none) := (HS1.out.later hb); have HKU2 : Hid (SB w3 U setUp) := (HLU1.out.later hb); have HKL2 : Hid (SB w3 L setLo) := (HN1.out.later hb); clear hb c0 c1 c2 c3; rw [show Oct.join Oct.none (Oct.span 48 57) = setDi from rfl]; unfold setV)
  have HN2 : Hid (SB (w3.alloc (.cells #[.int .u64 (Oct.word setDi 0 : Nat), .int .u64 (Oct.word setDi 1 : Nat), .int .u64 (Oct.word setDi 2 : Nat), .int .u64 (Oct.word setDi 3 : Nat)] 25)) w3.heap.size setDi) := sb_new w3 setDi
  have HB2 : Hid (Below w3.heap.size w3 (w3.alloc (.cells #[.int .u64 (Oct.word setDi 0 : Nat), .int .u64 (Oct.word setDi 1 : Nat), .int .u64 (Oct.word setDi 2 : Nat), .int .u64 (Oct.word setDi 3 : Nat)] 25))) := (Below.refl _ _).alloc (Nat.le_refl _) _
  obtain ⟨u3, hu3⟩ : ∃ u, u = w3.alloc (.cells #[.int .u64 (Oct.word setDi 0 : Nat), .int .u64 (Oct.word setDi 1 : Nat), .int .u64 (Oct.word setDi 2 : Nat), .int .u64 (Oct.word setDi 3 : Nat)] 25) := ⟨_, rfl⟩
  obtain ⟨D, hD⟩ : ∃ A, A = w3.heap.size := ⟨_, rfl⟩
  rw [← hu3] at HN2 HB2 ⊢
  rw [← hD] at HN2 ⊢
  have HS2 : Hid (St w u3 R S Oct.none) := HT2.out.later HB2.out
  have HLU2 : Hid (SB u3 U setUp) := HKU2.out.later HB2.out
  have HLL2 : Hid (SB u3 L setLo) := HKL2.out.later HB2.out
  clear hu3 hD HB2 HT2 HKU2 HKL2
  have H3 : Hid (C3 w u3 R S U L D) := ⟨HS2.out.1, HS2.out.2.1, HLU2.out, HLL2.out, HN2.out, HS2.out.2.2, by rw [HRR.out]; exact Nat.le_refl _⟩
  clear HS HS0 HS1 HS2 HLU2 HLL2 HN2 HRR HSS
  obtain ⟨c0, c1, c2, c3⟩ := H3.out.up.cells
  go_wp2_with fail
  refine (rin_lit setUp 97 122 _ _ rfl rfl _ (by decide) (by decide)).mono ?_
  rintro e v0 ⟨rfl, hb⟩
  have HX0 : Hid (C3 w v0 R S U L D) := H3.out.later hb
  clear hb
  unfold setV
  clear c0 c1 c2 c3
  go_wp2_with fail
  refine (rin_lit (Oct.join setUp (Oct.span 97 122)) 48 57 _ _ rfl rfl _ (by decide) (by decide)).mono ?_
  rintro e v1 ⟨rfl, hb⟩
  have HX1 : Hid (C3 w v1 R S U L D) := HX0.out.later hb
  clear hb
  unfold setV
  obtain ⟨d0, d1, d2, d3⟩ := HX1.out.res.cells
  have g0 := HX1.out.res.frozen 0
  have g1 := HX1.out.res.frozen 1
  have g2 := HX1.out.res.frozen 2
  have g3 := HX1.out.res.frozen 3
  go_wp2
  exact HX1.out.end_ (Oct.join (Oct.join setUp (Oct.span 97 122)) (Oct.span 48 57)) _ (by decide +kernel) rfl rfl rfl

set_option maxRecDepth 4000 in
set_option maxHeartbeats 4000000 in
theorem rclass_xdigit (w : World) : Calls Try.prog 74 #[.string ⟨#[120, 100, 105, 103, 105, 116]⟩] w fun e w' => e = .returned (.tuple #[setV xdigit, .bool true]) ∧ Below w.heap.size w w' := by
  obtain ⟨u0, hu0⟩ : ∃ u0, u0 = (w.alloc (.cells #[.int .u64 0, .int .u64 0, .int .u64 0, .int .u64 0] 25)).alloc (.cells #[.int .u64 0, .int .u64 0, .int .u64 0, .int .u64 0] 25) := ⟨_, rfl⟩
  have HS : Hid (St w u0 w.heap.size (w.heap.size + 1) Oct.none) := by rw [hu0]; exact start2 w
  have HU : Hid (u0 = _) := hu0
  clear hu0
  obtain ⟨R, hR⟩ : ∃ R, R = w.heap.size := ⟨_, rfl⟩
  obtain ⟨S, hS⟩ : ∃ S, S = w.heap.size + 1 := ⟨_, rfl⟩
  rw [← hS, ← hR] at HS
  have HRR : Hid (R = _) := hR
  have HSS : Hid (S = _) := hS
  clear hR hS
  go_enter Try.func74, Try.ntmps74
  go_upto_region 2 with fail
  rw [← HU.out, ← HSS.out, ← HRR.out]
  clear HU
  obtain ⟨⟨c0, c1, c2, c3⟩, _, _, _⟩ := HS.out.facts
  go_upto_region 3 with (go_at_call 80; refine (rin_lit Oct.none 65 90 _ _ rfl rfl _ (by decide) (by decide)).mono ?_; rintro e w1 ⟨rfl, hb⟩; have HT0 : Hid (St w w1 R S Oct.none) := (HS.out.later hb); clear hb c0 c1 c2 c3; rw [show Oct.join Oct.none (Oct.span 65 90) = setUp from rfl]; unfold setV)
  have HN0 : Hid (SB (w1.alloc (.cells #[.int .u64 (Oct.word setUp 0 : Nat), .int .u64 (Oct.word setUp 1 : Nat), .int .u64 (Oct.word setUp 2 : Nat), .int .u64 (Oct.word setUp 3 : Nat)] 25)) w1.heap.size setUp) := sb_new w1 setUp
  have HB0 : Hid (Below w1.heap.size w1 (w1.alloc (.cells #[.int .u64 (Oct.word setUp 0 : Nat), .int .u64 (Oct.word setUp 1 : Nat), .int .u64 (Oct.word setUp 2 : Nat), .int .u64 (Oct.word setUp 3 : Nat)] 25))) := (Below.refl _ _).alloc (Nat.le_refl _) _
  obtain ⟨u1, hu1⟩ : ∃ u, u = w1.alloc (.cells #[.int .u64 (Oct.word setUp 0 : Nat), .int .u64 (Oct.word setUp 1 : Nat), .int .u64 (Oct.word setUp 2 : Nat), .int .u64 (Oct.word setUp 3 : Nat)] 25) := ⟨_, rfl⟩
  obtain ⟨U, hU⟩ : ∃ A, A = w1.heap.size := ⟨_, rfl⟩
  rw [← hu1] at HN0 HB0 ⊢
  rw [← hU] at HN0 ⊢
  have HS0 : Hid (St w u1 R S Oct.none) := HT0.out.later HB0.out
  clear hu1 hU HB0 HT0 
  obtain ⟨⟨c0, c1, c2, c3⟩, _, _, _⟩ := HS0.out.facts
  go_upto_region 4 with (go_at_call 80; refine (rin_lit Oct.none 97 122 _ _ rfl rfl _ (by decide) (by decide)).mono ?_; rintro e w2 ⟨rfl, hb⟩; have HT1 : Hid (St w w2 R S Oct.none) := (HS0.out.later hb); have HKU1 : Hid (SB w2 U setUp) := (HN0.out.later hb); clear hb c0 c1 c2 c3; rw [show Oct.join Oct.none (Oct.span 97 122) = setLo from rfl]; unfold setV)
  have HN1 : Hid (SB (w2.alloc (.cells #[.int .u64 (Oct.word setLo 0 : Nat), .int .u64 (Oct.word setLo 1 : Nat), .int .u64 (Oct.word setLo 2 : Nat), .int .u64 (Oct.word setLo 3 : Nat)] 25)) w2.heap.size setLo) := sb_new w2 setLo
  have HB1 : Hid (Below w2.heap.size w2 (w2.alloc (.cells #[.int .u64 (Oct.word setLo 0 : Nat), .int .u64 (Oct.word setLo 1 : Nat), .int .u64 (Oct.word setLo 2 : Nat), .int .u64 (Oct.word setLo 3 : Nat)] 25))) := (Below.refl _ _).alloc (Nat.le_refl _) _
  obtain ⟨u2, hu2⟩ : ∃ u, u = w2.alloc (.cells #[.int .u64 (Oct.word setLo 0 : Nat), .int .u64 (Oct.word setLo 1 : Nat), .int .u64 (Oct.word setLo 2 : Nat), .int .u64 (Oct.word setLo 3 : Nat)] 25) := ⟨_, rfl⟩
  obtain ⟨L, hL⟩ : ∃ A, A = w2.heap.size := ⟨_, rfl⟩
  rw [← hu2] at HN1 HB1 ⊢
  rw [← hL] at HN1 ⊢
  have HS1 : Hid (St w u2 R S Oct.none) := HT1.out.later HB1.out
  have HLU1 : Hid (SB u2 U setUp) := HKU1.out.later HB1.out
  clear hu2 hL HB1 HT1 HKU1
  obtain ⟨⟨c0, c1, c2, c3⟩, _, _, _⟩ := HS1.out.facts
  go_upto_region 5 with (go_at_call 80; refine (rin_lit Oct.none 48 57 _ _ rfl rfl _ (by decide) (by decide)).mono ?_; rintro e w3 ⟨rfl, hb⟩; have HT2 : Hid (St w w3 R S Oct.none) := (HS1.out.later hb); have HKU2 : Hid (SB w3 U setUp) := (HLU1.out.later hb); have HKL2 : Hid (SB w3 L setLo) := (HN1.out.later hb); clear hb c0 c1 c2 c3; rw [show Oct.join Oct.none (Oct.span 48 57) = setDi from rfl]; unfold setV)
  have HN2 : Hid (SB (w3.alloc (.cells #[.int .u64 (Oct.word setDi 0 : Nat), .int .u64 (Oct.word setDi 1 : Nat), .int .u64 (Oct.word setDi 2 : Nat), .int .u64 (Oct.word setDi 3 : Nat)] 25)) w3.heap.size setDi) := sb_new w3 setDi
  have HB2 : Hid (Below w3.heap.size w3 (w3.alloc (.cells #[.int .u64 (Oct.word setDi 0 : Nat), .int .u64 (Oct.word setDi 1 : Nat), .int .u64 (Oct.word setDi 2 : Nat), .int .u64 (Oct.word setDi 3 : Nat)] 25))) := (Below.refl _ _).alloc (Nat.le_refl _) _
  obtain ⟨u3, hu3⟩ : ∃ u, u = w3.alloc (.cells #[.int .u64 (Oct.word setDi 0 : Nat), .int .u64 (Oct.word setDi 1 : Nat), .int .u64 (Oct.word setDi 2 : Nat), .int .u64 (Oct.word setDi 3 : Nat)] 25) := ⟨_, rfl⟩
  obtain ⟨D, hD⟩ : ∃ A, A = w3.heap.size := ⟨_, rfl⟩
  rw [← hu3] at HN2 HB2 ⊢
  rw [← hD] at HN2 ⊢
  have HS2 : Hid (St w u3 R S Oct.none) := HT2.out.later HB2.out
  have HLU2 : Hid (SB u3 U setUp) := HKU2.out.later HB2.out
  have HLL2 : Hid (SB u3 L setLo) := HKL2.out.later HB2.out
  clear hu3 hD HB2 HT2 HKU2 HKL2
  have H3 : Hid (C3 w u3 R S U L D) := ⟨HS2.out.1, HS2.out.2.1, HLU2.out, HLL2.out, HN2.out, HS2.out.2.2, by rw [HRR.out]; exact Nat.le_refl _⟩
  clear HS HS0 HS1 HS2 HLU2 HLL2 HN2 HRR HSS
  obtain ⟨c0, c1, c2, c3⟩ := H3.out.di.cells
  go_wp2_with fail
  refine (rin_lit setDi 65 70 _ _ rfl rfl _ (by decide) (by decide)).mono ?_
  rintro e v0 ⟨rfl, hb⟩
  have HX0 : Hid (C3 w v0 R S U L D) := H3.out.later hb
  clear hb
  unfold setV
  clear c0 c1 c2 c3
  go_wp2_with fail
  refine (rin_lit (Oct.join setDi (Oct.span 65 70)) 97 102 _ _ rfl rfl _ (by decide) (by decide)).mono ?_
  rintro e v1 ⟨rfl, hb⟩
  have HX1 : Hid (C3 w v1 R S U L D) := HX0.out.later hb
  clear hb
  unfold setV
  obtain ⟨d0, d1, d2, d3⟩ := HX1.out.res.cells
  have g0 := HX1.out.res.frozen 0
  have g1 := HX1.out.res.frozen 1
  have g2 := HX1.out.res.frozen 2
  have g3 := HX1.out.res.frozen 3
  go_wp2
  exact HX1.out.end_ (Oct.join (Oct.join setDi (Oct.span 65 70)) (Oct.span 97 102)) _ (by decide +kernel) rfl rfl rfl

set_option maxRecDepth 4000 in
set_option maxHeartbeats 4000000 in
theorem rclass_blank (w : World) : Calls Try.prog 74 #[.string ⟨#[98, 108, 97, 110, 107]⟩] w fun e w' => e = .returned (.tuple #[setV blank, .bool true]) ∧ Below w.heap.size w w' := by
  obtain ⟨u0, hu0⟩ : ∃ u0, u0 = (w.alloc (.cells #[.int .u64 0, .int .u64 0, .int .u64 0, .int .u64 0] 25)).alloc (.cells #[.int .u64 0, .int .u64 0, .int .u64 0, .int .u64 0] 25) := ⟨_, rfl⟩
  have HS : Hid (St w u0 w.heap.size (w.heap.size + 1) Oct.none) := by rw [hu0]; exact start2 w
  have HU : Hid (u0 = _) := hu0
  clear hu0
  obtain ⟨R, hR⟩ : ∃ R, R = w.heap.size := ⟨_, rfl⟩
  obtain ⟨S, hS⟩ : ∃ S, S = w.heap.size + 1 := ⟨_, rfl⟩
  rw [← hS, ← hR] at HS
  have HRR : Hid (R = _) := hR
  have HSS : Hid (S = _) := hS
  clear hR hS
  go_enter Try.func74, Try.ntmps74
  go_upto_region 2 with fail
  rw [← HU.out, ← HSS.out, ← HRR.out]
  clear HU
  obtain ⟨⟨c0, c1, c2, c3⟩, _, _, _⟩ := HS.out.facts
  go_upto_region 3 with (go_at_call 80; refine (rin_lit Oct.none 65 90 _ _ rfl rfl _ (by decide) (by decide)).mono ?_; rintro e w1 ⟨rfl, hb⟩; have HT0 : Hid (St w w1 R S Oct.none) := (HS.out.later hb); clear hb c0 c1 c2 c3; rw [show Oct.join Oct.none (Oct.span 65 90) = setUp from rfl]; unfold setV)
  have HN0 : Hid (SB (w1.alloc (.cells #[.int .u64 (Oct.word setUp 0 : Nat), .int .u64 (Oct.word setUp 1 : Nat), .int .u64 (Oct.word setUp 2 : Nat), .int .u64 (Oct.word setUp 3 : Nat)] 25)) w1.heap.size setUp) := sb_new w1 setUp
  have HB0 : Hid (Below w1.heap.size w1 (w1.alloc (.cells #[.int .u64 (Oct.word setUp 0 : Nat), .int .u64 (Oct.word setUp 1 : Nat), .int .u64 (Oct.word setUp 2 : Nat), .int .u64 (Oct.word setUp 3 : Nat)] 25))) := (Below.refl _ _).alloc (Nat.le_refl _) _
  obtain ⟨u1, hu1⟩ : ∃ u, u = w1.alloc (.cells #[.int .u64 (Oct.word setUp 0 : Nat), .int .u64 (Oct.word setUp 1 : Nat), .int .u64 (Oct.word setUp 2 : Nat), .int .u64 (Oct.word setUp 3 : Nat)] 25) := ⟨_, rfl⟩
  obtain ⟨U, hU⟩ : ∃ A, A = w1.heap.size := ⟨_, rfl⟩
  rw [← hu1] at HN0 HB0 ⊢
  rw [← hU] at HN0 ⊢
  have HS0 : Hid (St w u1 R S Oct.none) := HT0.out.later HB0.out
  clear hu1 hU HB0 HT0 
  obtain ⟨⟨c0, c1, c2, c3⟩, _, _, _⟩ := HS0.out.facts
  go_upto_region 4 with (go_at_call 80; refine (rin_lit Oct.none 97 122 _ _ rfl rfl _ (by decide) (by decide)).mono ?_; rintro e w2 ⟨rfl, hb⟩; have HT1 : Hid (St w w2 R S Oct.none) := (HS0.out.later hb); have HKU1 : Hid (SB w2 U setUp) := (HN0.out.later hb); clear hb c0 c1 c2 c3; rw [show Oct.join Oct.none (Oct.span 97 122) = setLo from rfl]; unfold setV)
  have HN1 : Hid (SB (w2.alloc (.cells #[.int .u64 (Oct.word setLo 0 : Nat), .int .u64 (Oct.word setLo 1 : Nat), .int .u64 (Oct.word setLo 2 : Nat), .int .u64 (Oct.word setLo 3 : Nat)] 25)) w2.heap.size setLo) := sb_new w2 setLo
  have HB1 : Hid (Below w2.heap.size w2 (w2.alloc (.cells #[.int .u64 (Oct.word setLo 0 : Nat), .int .u64 (Oct.word setLo 1 : Nat), .int .u64 (Oct.word setLo 2 : Nat), .int .u64 (Oct.word setLo 3 : Nat)] 25))) := (Below.refl _ _).alloc (Nat.le_refl _) _
  obtain ⟨u2, hu2⟩ : ∃ u, u = w2.alloc (.cells #[.int .u64 (Oct.word setLo 0 : Nat), .int .u64 (Oct.word setLo 1 : Nat), .int .u64 (Oct.word setLo 2 : Nat), .int .u64 (Oct.word setLo 3 : Nat)] 25) := ⟨_, rfl⟩
  obtain ⟨L, hL⟩ : ∃ A, A = w2.heap.size := ⟨_, rfl⟩
  rw [← hu2] at HN1 HB1 ⊢
  rw [← hL] at HN1 ⊢
  have HS1 : Hid (St w u2 R S Oct.none) := HT1.out.later HB1.out
  have HLU1 : Hid (SB u2 U setUp) := HKU1.out.later HB1.out
  clear hu2 hL HB1 HT1 HKU1
  obtain ⟨⟨c0, c1, c2, c3⟩, _, _, _⟩ := HS1.out.facts
  go_upto_region 5 with (go_at_call 80; refine (rin_lit Oct.none 48 57 _ _ rfl rfl _ (by decide) (by decide)).mono ?_; rintro e w3 ⟨rfl, hb⟩; have HT2 : Hid (St w w3 R S Oct.none) := (HS1.out.later hb); have HKU2 : Hid (SB w3 U setUp) := (HLU1.out.later hb); have HKL2 : Hid (SB w3 L setLo) := (HN1.out.later hb); clear hb c0 c1 c2 c3; rw [show Oct.join Oct.none (Oct.span 48 57) = setDi from rfl]; unfold setV)
  have HN2 : Hid (SB (w3.alloc (.cells #[.int .u64 (Oct.word setDi 0 : Nat), .int .u64 (Oct.word setDi 1 : Nat), .int .u64 (Oct.word setDi 2 : Nat), .int .u64 (Oct.word setDi 3 : Nat)] 25)) w3.heap.size setDi) := sb_new w3 setDi
  have HB2 : Hid (Below w3.heap.size w3 (w3.alloc (.cells #[.int .u64 (Oct.word setDi 0 : Nat), .int .u64 (Oct.word setDi 1 : Nat), .int .u64 (Oct.word setDi 2 : Nat), .int .u64 (Oct.word setDi 3 : Nat)] 25))) := (Below.refl _ _).alloc (Nat.le_refl _) _
  obtain ⟨u3, hu3⟩ : ∃ u, u = w3.alloc (.cells #[.int .u64 (Oct.word setDi 0 : Nat), .int .u64 (Oct.word setDi 1 : Nat), .int .u64 (Oct.word setDi 2 : Nat), .int .u64 (Oct.word setDi 3 : Nat)] 25) := ⟨_, rfl⟩
  obtain ⟨D, hD⟩ : ∃ A, A = w3.heap.size := ⟨_, rfl⟩
  rw [← hu3] at HN2 HB2 ⊢
  rw [← hD] at HN2 ⊢
  have HS2 : Hid (St w u3 R S Oct.none) := HT2.out.later HB2.out
  have HLU2 : Hid (SB u3 U setUp) := HKU2.out.later HB2.out
  have HLL2 : Hid (SB u3 L setLo) := HKL2.out.later HB2.out
  clear hu3 hD HB2 HT2 HKU2 HKL2
  have H3 : Hid (C3 w u3 R S U L D) := ⟨HS2.out.1, HS2.out.2.1, HLU2.out, HLL2.out, HN2.out, HS2.out.2.2, by rw [HRR.out]; exact Nat.le_refl _⟩
  clear HS HS0 HS1 HS2 HLU2 HLL2 HN2 HRR HSS
  obtain ⟨c0, c1, c2, c3⟩ := H3.out.no.cells
  go_wp2_with fail
  refine (rin_lit Oct.none 9 9 _ _ rfl rfl _ (by decide) (by decide)).mono ?_
  rintro e v0 ⟨rfl, hb⟩
  have HX0 : Hid (C3 w v0 R S U L D) := H3.out.later hb
  clear hb
  unfold setV
  clear c0 c1 c2 c3
  go_wp2_with fail
  refine (rin_lit (Oct.join Oct.none (Oct.span 9 9)) 32 32 _ _ rfl rfl _ (by decide) (by decide)).mono ?_
  rintro e v1 ⟨rfl, hb⟩
  have HX1 : Hid (C3 w v1 R S U L D) := HX0.out.later hb
  clear hb
  unfold setV
  obtain ⟨d0, d1, d2, d3⟩ := HX1.out.res.cells
  have g0 := HX1.out.res.frozen 0
  have g1 := HX1.out.res.frozen 1
  have g2 := HX1.out.res.frozen 2
  have g3 := HX1.out.res.frozen 3
  go_wp2
  exact HX1.out.end_ (Oct.join (Oct.join Oct.none (Oct.span 9 9)) (Oct.span 32 32)) _ (by decide +kernel) rfl rfl rfl

set_option maxRecDepth 4000 in
set_option maxHeartbeats 4000000 in
theorem rclass_space (w : World) : Calls Try.prog 74 #[.string ⟨#[115, 112, 97, 99, 101]⟩] w fun e w' => e = .returned (.tuple #[setV space, .bool true]) ∧ Below w.heap.size w w' := by
  obtain ⟨u0, hu0⟩ : ∃ u0, u0 = (w.alloc (.cells #[.int .u64 0, .int .u64 0, .int .u64 0, .int .u64 0] 25)).alloc (.cells #[.int .u64 0, .int .u64 0, .int .u64 0, .int .u64 0] 25) := ⟨_, rfl⟩
  have HS : Hid (St w u0 w.heap.size (w.heap.size + 1) Oct.none) := by rw [hu0]; exact start2 w
  have HU : Hid (u0 = _) := hu0
  clear hu0
  obtain ⟨R, hR⟩ : ∃ R, R = w.heap.size := ⟨_, rfl⟩
  obtain ⟨S, hS⟩ : ∃ S, S = w.heap.size + 1 := ⟨_, rfl⟩
  rw [← hS, ← hR] at HS
  have HRR : Hid (R = _) := hR
  have HSS : Hid (S = _) := hS
  clear hR hS
  go_enter Try.func74, Try.ntmps74
  go_upto_region 2 with fail
  rw [← HU.out, ← HSS.out, ← HRR.out]
  clear HU
  obtain ⟨⟨c0, c1, c2, c3⟩, _, _, _⟩ := HS.out.facts
  go_upto_region 3 with (go_at_call 80; refine (rin_lit Oct.none 65 90 _ _ rfl rfl _ (by decide) (by decide)).mono ?_; rintro e w1 ⟨rfl, hb⟩; have HT0 : Hid (St w w1 R S Oct.none) := (HS.out.later hb); clear hb c0 c1 c2 c3; rw [show Oct.join Oct.none (Oct.span 65 90) = setUp from rfl]; unfold setV)
  have HN0 : Hid (SB (w1.alloc (.cells #[.int .u64 (Oct.word setUp 0 : Nat), .int .u64 (Oct.word setUp 1 : Nat), .int .u64 (Oct.word setUp 2 : Nat), .int .u64 (Oct.word setUp 3 : Nat)] 25)) w1.heap.size setUp) := sb_new w1 setUp
  have HB0 : Hid (Below w1.heap.size w1 (w1.alloc (.cells #[.int .u64 (Oct.word setUp 0 : Nat), .int .u64 (Oct.word setUp 1 : Nat), .int .u64 (Oct.word setUp 2 : Nat), .int .u64 (Oct.word setUp 3 : Nat)] 25))) := (Below.refl _ _).alloc (Nat.le_refl _) _
  obtain ⟨u1, hu1⟩ : ∃ u, u = w1.alloc (.cells #[.int .u64 (Oct.word setUp 0 : Nat), .int .u64 (Oct.word setUp 1 : Nat), .int .u64 (Oct.word setUp 2 : Nat), .int .u64 (Oct.word setUp 3 : Nat)] 25) := ⟨_, rfl⟩
  obtain ⟨U, hU⟩ : ∃ A, A = w1.heap.size := ⟨_, rfl⟩
  rw [← hu1] at HN0 HB0 ⊢
  rw [← hU] at HN0 ⊢
  have HS0 : Hid (St w u1 R S Oct.none) := HT0.out.later HB0.out
  clear hu1 hU HB0 HT0 
  obtain ⟨⟨c0, c1, c2, c3⟩, _, _, _⟩ := HS0.out.facts
  go_upto_region 4 with (go_at_call 80; refine (rin_lit Oct.none 97 122 _ _ rfl rfl _ (by decide) (by decide)).mono ?_; rintro e w2 ⟨rfl, hb⟩; have HT1 : Hid (St w w2 R S Oct.none) := (HS0.out.later hb); have HKU1 : Hid (SB w2 U setUp) := (HN0.out.later hb); clear hb c0 c1 c2 c3; rw [show Oct.join Oct.none (Oct.span 97 122) = setLo from rfl]; unfold setV)
  have HN1 : Hid (SB (w2.alloc (.cells #[.int .u64 (Oct.word setLo 0 : Nat), .int .u64 (Oct.word setLo 1 : Nat), .int .u64 (Oct.word setLo 2 : Nat), .int .u64 (Oct.word setLo 3 : Nat)] 25)) w2.heap.size setLo) := sb_new w2 setLo
  have HB1 : Hid (Below w2.heap.size w2 (w2.alloc (.cells #[.int .u64 (Oct.word setLo 0 : Nat), .int .u64 (Oct.word setLo 1 : Nat), .int .u64 (Oct.word setLo 2 : Nat), .int .u64 (Oct.word setLo 3 : Nat)] 25))) := (Below.refl _ _).alloc (Nat.le_refl _) _
  obtain ⟨u2, hu2⟩ : ∃ u, u = w2.alloc (.cells #[.int .u64 (Oct.word setLo 0 : Nat), .int .u64 (Oct.word setLo 1 : Nat), .int .u64 (Oct.word setLo 2 : Nat), .int .u64 (Oct.word setLo 3 : Nat)] 25) := ⟨_, rfl⟩
  obtain ⟨L, hL⟩ : ∃ A, A = w2.heap.size := ⟨_, rfl⟩
  rw [← hu2] at HN1 HB1 ⊢
  rw [← hL] at HN1 ⊢
  have HS1 : Hid (St w u2 R S Oct.none) := HT1.out.later HB1.out
  have HLU1 : Hid (SB u2 U setUp) := HKU1.out.later HB1.out
  clear hu2 hL HB1 HT1 HKU1
  obtain ⟨⟨c0, c1, c2, c3⟩, _, _, _⟩ := HS1.out.facts
  go_upto_region 5 with (go_at_call 80; refine (rin_lit Oct.none 48 57 _ _ rfl rfl _ (by decide) (by decide)).mono ?_; rintro e w3 ⟨rfl, hb⟩; have HT2 : Hid (St w w3 R S Oct.none) := (HS1.out.later hb); have HKU2 : Hid (SB w3 U setUp) := (HLU1.out.later hb); have HKL2 : Hid (SB w3 L setLo) := (HN1.out.later hb); clear hb c0 c1 c2 c3; rw [show Oct.join Oct.none (Oct.span 48 57) = setDi from rfl]; unfold setV)
  have HN2 : Hid (SB (w3.alloc (.cells #[.int .u64 (Oct.word setDi 0 : Nat), .int .u64 (Oct.word setDi 1 : Nat), .int .u64 (Oct.word setDi 2 : Nat), .int .u64 (Oct.word setDi 3 : Nat)] 25)) w3.heap.size setDi) := sb_new w3 setDi
  have HB2 : Hid (Below w3.heap.size w3 (w3.alloc (.cells #[.int .u64 (Oct.word setDi 0 : Nat), .int .u64 (Oct.word setDi 1 : Nat), .int .u64 (Oct.word setDi 2 : Nat), .int .u64 (Oct.word setDi 3 : Nat)] 25))) := (Below.refl _ _).alloc (Nat.le_refl _) _
  obtain ⟨u3, hu3⟩ : ∃ u, u = w3.alloc (.cells #[.int .u64 (Oct.word setDi 0 : Nat), .int .u64 (Oct.word setDi 1 : Nat), .int .u64 (Oct.word setDi 2 : Nat), .int .u64 (Oct.word setDi 3 : Nat)] 25) := ⟨_, rfl⟩
  obtain ⟨D, hD⟩ : ∃ A, A = w3.heap.size := ⟨_, rfl⟩
  rw [← hu3] at HN2 HB2 ⊢
  rw [← hD] at HN2 ⊢
  have HS2 : Hid (St w u3 R S Oct.none) := HT2.out.later HB2.out
  have HLU2 : Hid (SB u3 U setUp) := HKU2.out.later HB2.out
  have HLL2 : Hid (SB u3 L setLo) := HKL2.out.later HB2.out
  clear hu3 hD HB2 HT2 HKU2 HKL2
  have H3 : Hid (C3 w u3 R S U L D) := ⟨HS2.out.1, HS2.out.2.1, HLU2.out, HLL2.out, HN2.out, HS2.out.2.2, by rw [HRR.out]; exact Nat.le_refl _⟩
  clear HS HS0 HS1 HS2 HLU2 HLL2 HN2 HRR HSS
  obtain ⟨c0, c1, c2, c3⟩ := H3.out.no.cells
  go_wp2_with fail
  refine (rin_lit Oct.none 9 13 _ _ rfl rfl _ (by decide) (by decide)).mono ?_
  rintro e v0 ⟨rfl, hb⟩
  have HX0 : Hid (C3 w v0 R S U L D) := H3.out.later hb
  clear hb
  unfold setV
  clear c0 c1 c2 c3
  go_wp2_with fail
  refine (rin_lit (Oct.join Oct.none (Oct.span 9 13)) 32 32 _ _ rfl rfl _ (by decide) (by decide)).mono ?_
  rintro e v1 ⟨rfl, hb⟩
  have HX1 : Hid (C3 w v1 R S U L D) := HX0.out.later hb
  clear hb
  unfold setV
  obtain ⟨d0, d1, d2, d3⟩ := HX1.out.res.cells
  have g0 := HX1.out.res.frozen 0
  have g1 := HX1.out.res.frozen 1
  have g2 := HX1.out.res.frozen 2
  have g3 := HX1.out.res.frozen 3
  go_wp2
  exact HX1.out.end_ (Oct.join (Oct.join Oct.none (Oct.span 9 13)) (Oct.span 32 32)) _ (by decide +kernel) rfl rfl rfl

set_option maxRecDepth 4000 in
set_option maxHeartbeats 4000000 in
theorem rclass_cntrl (w : World) : Calls Try.prog 74 #[.string ⟨#[99, 110, 116, 114, 108]⟩] w fun e w' => e = .returned (.tuple #[setV cntrl, .bool true]) ∧ Below w.heap.size w w' := by
  obtain ⟨u0, hu0⟩ : ∃ u0, u0 = (w.alloc (.cells #[.int .u64 0, .int .u64 0, .int .u64 0, .int .u64 0] 25)).alloc (.cells #[.int .u64 0, .int .u64 0, .int .u64 0, .int .u64 0] 25) := ⟨_, rfl⟩
  have HS : Hid (St w u0 w.heap.size (w.heap.size + 1) Oct.none) := by rw [hu0]; exact start2 w
  have HU : Hid (u0 = _) := hu0
  clear hu0
  obtain ⟨R, hR⟩ : ∃ R, R = w.heap.size := ⟨_, rfl⟩
  obtain ⟨S, hS⟩ : ∃ S, S = w.heap.size + 1 := ⟨_, rfl⟩
  rw [← hS, ← hR] at HS
  have HRR : Hid (R = _) := hR
  have HSS : Hid (S = _) := hS
  clear hR hS
  go_enter Try.func74, Try.ntmps74
  go_upto_region 2 with fail
  rw [← HU.out, ← HSS.out, ← HRR.out]
  clear HU
  obtain ⟨⟨c0, c1, c2, c3⟩, _, _, _⟩ := HS.out.facts
  go_upto_region 3 with (go_at_call 80; refine (rin_lit Oct.none 65 90 _ _ rfl rfl _ (by decide) (by decide)).mono ?_; rintro e w1 ⟨rfl, hb⟩; have HT0 : Hid (St w w1 R S Oct.none) := (HS.out.later hb); clear hb c0 c1 c2 c3; rw [show Oct.join Oct.none (Oct.span 65 90) = setUp from rfl]; unfold setV)
  have HN0 : Hid (SB (w1.alloc (.cells #[.int .u64 (Oct.word setUp 0 : Nat), .int .u64 (Oct.word setUp 1 : Nat), .int .u64 (Oct.word setUp 2 : Nat), .int .u64 (Oct.word setUp 3 : Nat)] 25)) w1.heap.size setUp) := sb_new w1 setUp
  have HB0 : Hid (Below w1.heap.size w1 (w1.alloc (.cells #[.int .u64 (Oct.word setUp 0 : Nat), .int .u64 (Oct.word setUp 1 : Nat), .int .u64 (Oct.word setUp 2 : Nat), .int .u64 (Oct.word setUp 3 : Nat)] 25))) := (Below.refl _ _).alloc (Nat.le_refl _) _
  obtain ⟨u1, hu1⟩ : ∃ u, u = w1.alloc (.cells #[.int .u64 (Oct.word setUp 0 : Nat), .int .u64 (Oct.word setUp 1 : Nat), .int .u64 (Oct.word setUp 2 : Nat), .int .u64 (Oct.word setUp 3 : Nat)] 25) := ⟨_, rfl⟩
  obtain ⟨U, hU⟩ : ∃ A, A = w1.heap.size := ⟨_, rfl⟩
  rw [← hu1] at HN0 HB0 ⊢
  rw [← hU] at HN0 ⊢
  have HS0 : Hid (St w u1 R S Oct.none) := HT0.out.later HB0.out
  clear hu1 hU HB0 HT0 
  obtain ⟨⟨c0, c1, c2, c3⟩, _, _, _⟩ := HS0.out.facts
  go_upto_region 4 with (go_at_call 80; refine (rin_lit Oct.none 97 122 _ _ rfl rfl _ (by decide) (by decide)).mono ?_; rintro e w2 ⟨rfl, hb⟩; have HT1 : Hid (St w w2 R S Oct.none) := (HS0.out.later hb); have HKU1 : Hid (SB w2 U setUp) := (HN0.out.later hb); clear hb c0 c1 c2 c3; rw [show Oct.join Oct.none (Oct.span 97 122) = setLo from rfl]; unfold setV)
  have HN1 : Hid (SB (w2.alloc (.cells #[.int .u64 (Oct.word setLo 0 : Nat), .int .u64 (Oct.word setLo 1 : Nat), .int .u64 (Oct.word setLo 2 : Nat), .int .u64 (Oct.word setLo 3 : Nat)] 25)) w2.heap.size setLo) := sb_new w2 setLo
  have HB1 : Hid (Below w2.heap.size w2 (w2.alloc (.cells #[.int .u64 (Oct.word setLo 0 : Nat), .int .u64 (Oct.word setLo 1 : Nat), .int .u64 (Oct.word setLo 2 : Nat), .int .u64 (Oct.word setLo 3 : Nat)] 25))) := (Below.refl _ _).alloc (Nat.le_refl _) _
  obtain ⟨u2, hu2⟩ : ∃ u, u = w2.alloc (.cells #[.int .u64 (Oct.word setLo 0 : Nat), .int .u64 (Oct.word setLo 1 : Nat), .int .u64 (Oct.word setLo 2 : Nat), .int .u64 (Oct.word setLo 3 : Nat)] 25) := ⟨_, rfl⟩
  obtain ⟨L, hL⟩ : ∃ A, A = w2.heap.size := ⟨_, rfl⟩
  rw [← hu2] at HN1 HB1 ⊢
  rw [← hL] at HN1 ⊢
  have HS1 : Hid (St w u2 R S Oct.none) := HT1.out.later HB1.out
  have HLU1 : Hid (SB u2 U setUp) := HKU1.out.later HB1.out
  clear hu2 hL HB1 HT1 HKU1
  obtain ⟨⟨c0, c1, c2, c3⟩, _, _, _⟩ := HS1.out.facts
  go_upto_region 5 with (go_at_call 80; refine (rin_lit Oct.none 48 57 _ _ rfl rfl _ (by decide) (by decide)).mono ?_; rintro e w3 ⟨rfl, hb⟩; have HT2 : Hid (St w w3 R S Oct.none) := (HS1.out.later hb); have HKU2 : Hid (SB w3 U setUp) := (HLU1.out.later hb); have HKL2 : Hid (SB w3 L setLo) := (HN1.out.later hb); clear hb c0 c1 c2 c3; rw [show Oct.join Oct.none (Oct.span 48 57) = setDi from rfl]; unfold setV)
  have HN2 : Hid (SB (w3.alloc (.cells #[.int .u64 (Oct.word setDi 0 : Nat), .int .u64 (Oct.word setDi 1 : Nat), .int .u64 (Oct.word setDi 2 : Nat), .int .u64 (Oct.word setDi 3 : Nat)] 25)) w3.heap.size setDi) := sb_new w3 setDi
  have HB2 : Hid (Below w3.heap.size w3 (w3.alloc (.cells #[.int .u64 (Oct.word setDi 0 : Nat), .int .u64 (Oct.word setDi 1 : Nat), .int .u64 (Oct.word setDi 2 : Nat), .int .u64 (Oct.word setDi 3 : Nat)] 25))) := (Below.refl _ _).alloc (Nat.le_refl _) _
  obtain ⟨u3, hu3⟩ : ∃ u, u = w3.alloc (.cells #[.int .u64 (Oct.word setDi 0 : Nat), .int .u64 (Oct.word setDi 1 : Nat), .int .u64 (Oct.word setDi 2 : Nat), .int .u64 (Oct.word setDi 3 : Nat)] 25) := ⟨_, rfl⟩
  obtain ⟨D, hD⟩ : ∃ A, A = w3.heap.size := ⟨_, rfl⟩
  rw [← hu3] at HN2 HB2 ⊢
  rw [← hD] at HN2 ⊢
  have HS2 : Hid (St w u3 R S Oct.none) := HT2.out.later HB2.out
  have HLU2 : Hid (SB u3 U setUp) := HKU2.out.later HB2.out
  have HLL2 : Hid (SB u3 L setLo) := HKL2.out.later HB2.out
  clear hu3 hD HB2 HT2 HKU2 HKL2
  have H3 : Hid (C3 w u3 R S U L D) := ⟨HS2.out.1, HS2.out.2.1, HLU2.out, HLL2.out, HN2.out, HS2.out.2.2, by rw [HRR.out]; exact Nat.le_refl _⟩
  clear HS HS0 HS1 HS2 HLU2 HLL2 HN2 HRR HSS
  obtain ⟨c0, c1, c2, c3⟩ := H3.out.no.cells
  go_wp2_with fail
  refine (rin_lit Oct.none 0 31 _ _ rfl rfl _ (by decide) (by decide)).mono ?_
  rintro e v0 ⟨rfl, hb⟩
  have HX0 : Hid (C3 w v0 R S U L D) := H3.out.later hb
  clear hb
  unfold setV
  clear c0 c1 c2 c3
  go_wp2_with fail
  refine (rin_lit (Oct.join Oct.none (Oct.span 0 31)) 127 127 _ _ rfl rfl _ (by decide) (by decide)).mono ?_
  rintro e v1 ⟨rfl, hb⟩
  have HX1 : Hid (C3 w v1 R S U L D) := HX0.out.later hb
  clear hb
  unfold setV
  obtain ⟨d0, d1, d2, d3⟩ := HX1.out.res.cells
  have g0 := HX1.out.res.frozen 0
  have g1 := HX1.out.res.frozen 1
  have g2 := HX1.out.res.frozen 2
  have g3 := HX1.out.res.frozen 3
  go_wp2
  exact HX1.out.end_ (Oct.join (Oct.join Oct.none (Oct.span 0 31)) (Oct.span 127 127)) _ (by decide +kernel) rfl rfl rfl

set_option maxRecDepth 4000 in
set_option maxHeartbeats 4000000 in
theorem rclass_graph (w : World) : Calls Try.prog 74 #[.string ⟨#[103, 114, 97, 112, 104]⟩] w fun e w' => e = .returned (.tuple #[setV graph, .bool true]) ∧ Below w.heap.size w w' := by
  obtain ⟨u0, hu0⟩ : ∃ u0, u0 = (w.alloc (.cells #[.int .u64 0, .int .u64 0, .int .u64 0, .int .u64 0] 25)).alloc (.cells #[.int .u64 0, .int .u64 0, .int .u64 0, .int .u64 0] 25) := ⟨_, rfl⟩
  have HS : Hid (St w u0 w.heap.size (w.heap.size + 1) Oct.none) := by rw [hu0]; exact start2 w
  have HU : Hid (u0 = _) := hu0
  clear hu0
  obtain ⟨R, hR⟩ : ∃ R, R = w.heap.size := ⟨_, rfl⟩
  obtain ⟨S, hS⟩ : ∃ S, S = w.heap.size + 1 := ⟨_, rfl⟩
  rw [← hS, ← hR] at HS
  have HRR : Hid (R = _) := hR
  have HSS : Hid (S = _) := hS
  clear hR hS
  go_enter Try.func74, Try.ntmps74
  go_upto_region 2 with fail
  rw [← HU.out, ← HSS.out, ← HRR.out]
  clear HU
  obtain ⟨⟨c0, c1, c2, c3⟩, _, _, _⟩ := HS.out.facts
  go_upto_region 3 with (go_at_call 80; refine (rin_lit Oct.none 65 90 _ _ rfl rfl _ (by decide) (by decide)).mono ?_; rintro e w1 ⟨rfl, hb⟩; have HT0 : Hid (St w w1 R S Oct.none) := (HS.out.later hb); clear hb c0 c1 c2 c3; rw [show Oct.join Oct.none (Oct.span 65 90) = setUp from rfl]; unfold setV)
  have HN0 : Hid (SB (w1.alloc (.cells #[.int .u64 (Oct.word setUp 0 : Nat), .int .u64 (Oct.word setUp 1 : Nat), .int .u64 (Oct.word setUp 2 : Nat), .int .u64 (Oct.word setUp 3 : Nat)] 25)) w1.heap.size setUp) := sb_new w1 setUp
  have HB0 : Hid (Below w1.heap.size w1 (w1.alloc (.cells #[.int .u64 (Oct.word setUp 0 : Nat), .int .u64 (Oct.word setUp 1 : Nat), .int .u64 (Oct.word setUp 2 : Nat), .int .u64 (Oct.word setUp 3 : Nat)] 25))) := (Below.refl _ _).alloc (Nat.le_refl _) _
  obtain ⟨u1, hu1⟩ : ∃ u, u = w1.alloc (.cells #[.int .u64 (Oct.word setUp 0 : Nat), .int .u64 (Oct.word setUp 1 : Nat), .int .u64 (Oct.word setUp 2 : Nat), .int .u64 (Oct.word setUp 3 : Nat)] 25) := ⟨_, rfl⟩
  obtain ⟨U, hU⟩ : ∃ A, A = w1.heap.size := ⟨_, rfl⟩
  rw [← hu1] at HN0 HB0 ⊢
  rw [← hU] at HN0 ⊢
  have HS0 : Hid (St w u1 R S Oct.none) := HT0.out.later HB0.out
  clear hu1 hU HB0 HT0 
  obtain ⟨⟨c0, c1, c2, c3⟩, _, _, _⟩ := HS0.out.facts
  go_upto_region 4 with (go_at_call 80; refine (rin_lit Oct.none 97 122 _ _ rfl rfl _ (by decide) (by decide)).mono ?_; rintro e w2 ⟨rfl, hb⟩; have HT1 : Hid (St w w2 R S Oct.none) := (HS0.out.later hb); have HKU1 : Hid (SB w2 U setUp) := (HN0.out.later hb); clear hb c0 c1 c2 c3; rw [show Oct.join Oct.none (Oct.span 97 122) = setLo from rfl]; unfold setV)
  have HN1 : Hid (SB (w2.alloc (.cells #[.int .u64 (Oct.word setLo 0 : Nat), .int .u64 (Oct.word setLo 1 : Nat), .int .u64 (Oct.word setLo 2 : Nat), .int .u64 (Oct.word setLo 3 : Nat)] 25)) w2.heap.size setLo) := sb_new w2 setLo
  have HB1 : Hid (Below w2.heap.size w2 (w2.alloc (.cells #[.int .u64 (Oct.word setLo 0 : Nat), .int .u64 (Oct.word setLo 1 : Nat), .int .u64 (Oct.word setLo 2 : Nat), .int .u64 (Oct.word setLo 3 : Nat)] 25))) := (Below.refl _ _).alloc (Nat.le_refl _) _
  obtain ⟨u2, hu2⟩ : ∃ u, u = w2.alloc (.cells #[.int .u64 (Oct.word setLo 0 : Nat), .int .u64 (Oct.word setLo 1 : Nat), .int .u64 (Oct.word setLo 2 : Nat), .int .u64 (Oct.word setLo 3 : Nat)] 25) := ⟨_, rfl⟩
  obtain ⟨L, hL⟩ : ∃ A, A = w2.heap.size := ⟨_, rfl⟩
  rw [← hu2] at HN1 HB1 ⊢
  rw [← hL] at HN1 ⊢
  have HS1 : Hid (St w u2 R S Oct.none) := HT1.out.later HB1.out
  have HLU1 : Hid (SB u2 U setUp) := HKU1.out.later HB1.out
  clear hu2 hL HB1 HT1 HKU1
  obtain ⟨⟨c0, c1, c2, c3⟩, _, _, _⟩ := HS1.out.facts
  go_upto_region 5 with (go_at_call 80; refine (rin_lit Oct.none 48 57 _ _ rfl rfl _ (by decide) (by decide)).mono ?_; rintro e w3 ⟨rfl, hb⟩; have HT2 : Hid (St w w3 R S Oct.none) := (HS1.out.later hb); have HKU2 : Hid (SB w3 U setUp) := (HLU1.out.later hb); have HKL2 : Hid (SB w3 L setLo) := (HN1.out.later hb); clear hb c0 c1 c2 c3; rw [show Oct.join Oct.none (Oct.span 48 57) = setDi from rfl]; unfold setV)
  have HN2 : Hid (SB (w3.alloc (.cells #[.int .u64 (Oct.word setDi 0 : Nat), .int .u64 (Oct.word setDi 1 : Nat), .int .u64 (Oct.word setDi 2 : Nat), .int .u64 (Oct.word setDi 3 : Nat)] 25)) w3.heap.size setDi) := sb_new w3 setDi
  have HB2 : Hid (Below w3.heap.size w3 (w3.alloc (.cells #[.int .u64 (Oct.word setDi 0 : Nat), .int .u64 (Oct.word setDi 1 : Nat), .int .u64 (Oct.word setDi 2 : Nat), .int .u64 (Oct.word setDi 3 : Nat)] 25))) := (Below.refl _ _).alloc (Nat.le_refl _) _
  obtain ⟨u3, hu3⟩ : ∃ u, u = w3.alloc (.cells #[.int .u64 (Oct.word setDi 0 : Nat), .int .u64 (Oct.word setDi 1 : Nat), .int .u64 (Oct.word setDi 2 : Nat), .int .u64 (Oct.word setDi 3 : Nat)] 25) := ⟨_, rfl⟩
  obtain ⟨D, hD⟩ : ∃ A, A = w3.heap.size := ⟨_, rfl⟩
  rw [← hu3] at HN2 HB2 ⊢
  rw [← hD] at HN2 ⊢
  have HS2 : Hid (St w u3 R S Oct.none) := HT2.out.later HB2.out
  have HLU2 : Hid (SB u3 U setUp) := HKU2.out.later HB2.out
  have HLL2 : Hid (SB u3 L setLo) := HKL2.out.later HB2.out
  clear hu3 hD HB2 HT2 HKU2 HKL2
  have H3 : Hid (C3 w u3 R S U L D) := ⟨HS2.out.1, HS2.out.2.1, HLU2.out, HLL2.out, HN2.out, HS2.out.2.2, by rw [HRR.out]; exact Nat.le_refl _⟩
  clear HS HS0 HS1 HS2 HLU2 HLL2 HN2 HRR HSS
  obtain ⟨c0, c1, c2, c3⟩ := H3.out.no.cells
  go_wp2_with fail
  refine (rin_lit Oct.none 33 126 _ _ rfl rfl _ (by decide) (by decide)).mono ?_
  rintro e v0 ⟨rfl, hb⟩
  have HX0 : Hid (C3 w v0 R S U L D) := H3.out.later hb
  clear hb
  unfold setV
  clear c0 c1 c2 c3
  obtain ⟨d0, d1, d2, d3⟩ := HX0.out.res.cells
  have g0 := HX0.out.res.frozen 0
  have g1 := HX0.out.res.frozen 1
  have g2 := HX0.out.res.frozen 2
  have g3 := HX0.out.res.frozen 3
  go_wp2
  exact HX0.out.end_ (Oct.join Oct.none (Oct.span 33 126)) _ (by decide +kernel) rfl rfl rfl

set_option maxRecDepth 4000 in
set_option maxHeartbeats 4000000 in
theorem rclass_print (w : World) : Calls Try.prog 74 #[.string ⟨#[112, 114, 105, 110, 116]⟩] w fun e w' => e = .returned (.tuple #[setV print, .bool true]) ∧ Below w.heap.size w w' := by
  obtain ⟨u0, hu0⟩ : ∃ u0, u0 = (w.alloc (.cells #[.int .u64 0, .int .u64 0, .int .u64 0, .int .u64 0] 25)).alloc (.cells #[.int .u64 0, .int .u64 0, .int .u64 0, .int .u64 0] 25) := ⟨_, rfl⟩
  have HS : Hid (St w u0 w.heap.size (w.heap.size + 1) Oct.none) := by rw [hu0]; exact start2 w
  have HU : Hid (u0 = _) := hu0
  clear hu0
  obtain ⟨R, hR⟩ : ∃ R, R = w.heap.size := ⟨_, rfl⟩
  obtain ⟨S, hS⟩ : ∃ S, S = w.heap.size + 1 := ⟨_, rfl⟩
  rw [← hS, ← hR] at HS
  have HRR : Hid (R = _) := hR
  have HSS : Hid (S = _) := hS
  clear hR hS
  go_enter Try.func74, Try.ntmps74
  go_upto_region 2 with fail
  rw [← HU.out, ← HSS.out, ← HRR.out]
  clear HU
  obtain ⟨⟨c0, c1, c2, c3⟩, _, _, _⟩ := HS.out.facts
  go_upto_region 3 with (go_at_call 80; refine (rin_lit Oct.none 65 90 _ _ rfl rfl _ (by decide) (by decide)).mono ?_; rintro e w1 ⟨rfl, hb⟩; have HT0 : Hid (St w w1 R S Oct.none) := (HS.out.later hb); clear hb c0 c1 c2 c3; rw [show Oct.join Oct.none (Oct.span 65 90) = setUp from rfl]; unfold setV)
  have HN0 : Hid (SB (w1.alloc (.cells #[.int .u64 (Oct.word setUp 0 : Nat), .int .u64 (Oct.word setUp 1 : Nat), .int .u64 (Oct.word setUp 2 : Nat), .int .u64 (Oct.word setUp 3 : Nat)] 25)) w1.heap.size setUp) := sb_new w1 setUp
  have HB0 : Hid (Below w1.heap.size w1 (w1.alloc (.cells #[.int .u64 (Oct.word setUp 0 : Nat), .int .u64 (Oct.word setUp 1 : Nat), .int .u64 (Oct.word setUp 2 : Nat), .int .u64 (Oct.word setUp 3 : Nat)] 25))) := (Below.refl _ _).alloc (Nat.le_refl _) _
  obtain ⟨u1, hu1⟩ : ∃ u, u = w1.alloc (.cells #[.int .u64 (Oct.word setUp 0 : Nat), .int .u64 (Oct.word setUp 1 : Nat), .int .u64 (Oct.word setUp 2 : Nat), .int .u64 (Oct.word setUp 3 : Nat)] 25) := ⟨_, rfl⟩
  obtain ⟨U, hU⟩ : ∃ A, A = w1.heap.size := ⟨_, rfl⟩
  rw [← hu1] at HN0 HB0 ⊢
  rw [← hU] at HN0 ⊢
  have HS0 : Hid (St w u1 R S Oct.none) := HT0.out.later HB0.out
  clear hu1 hU HB0 HT0 
  obtain ⟨⟨c0, c1, c2, c3⟩, _, _, _⟩ := HS0.out.facts
  go_upto_region 4 with (go_at_call 80; refine (rin_lit Oct.none 97 122 _ _ rfl rfl _ (by decide) (by decide)).mono ?_; rintro e w2 ⟨rfl, hb⟩; have HT1 : Hid (St w w2 R S Oct.none) := (HS0.out.later hb); have HKU1 : Hid (SB w2 U setUp) := (HN0.out.later hb); clear hb c0 c1 c2 c3; rw [show Oct.join Oct.none (Oct.span 97 122) = setLo from rfl]; unfold setV)
  have HN1 : Hid (SB (w2.alloc (.cells #[.int .u64 (Oct.word setLo 0 : Nat), .int .u64 (Oct.word setLo 1 : Nat), .int .u64 (Oct.word setLo 2 : Nat), .int .u64 (Oct.word setLo 3 : Nat)] 25)) w2.heap.size setLo) := sb_new w2 setLo
  have HB1 : Hid (Below w2.heap.size w2 (w2.alloc (.cells #[.int .u64 (Oct.word setLo 0 : Nat), .int .u64 (Oct.word setLo 1 : Nat), .int .u64 (Oct.word setLo 2 : Nat), .int .u64 (Oct.word setLo 3 : Nat)] 25))) := (Below.refl _ _).alloc (Nat.le_refl _) _
  obtain ⟨u2, hu2⟩ : ∃ u, u = w2.alloc (.cells #[.int .u64 (Oct.word setLo 0 : Nat), .int .u64 (Oct.word setLo 1 : Nat), .int .u64 (Oct.word setLo 2 : Nat), .int .u64 (Oct.word setLo 3 : Nat)] 25) := ⟨_, rfl⟩
  obtain ⟨L, hL⟩ : ∃ A, A = w2.heap.size := ⟨_, rfl⟩
  rw [← hu2] at HN1 HB1 ⊢
  rw [← hL] at HN1 ⊢
  have HS1 : Hid (St w u2 R S Oct.none) := HT1.out.later HB1.out
  have HLU1 : Hid (SB u2 U setUp) := HKU1.out.later HB1.out
  clear hu2 hL HB1 HT1 HKU1
  obtain ⟨⟨c0, c1, c2, c3⟩, _, _, _⟩ := HS1.out.facts
  go_upto_region 5 with (go_at_call 80; refine (rin_lit Oct.none 48 57 _ _ rfl rfl _ (by decide) (by decide)).mono ?_; rintro e w3 ⟨rfl, hb⟩; have HT2 : Hid (St w w3 R S Oct.none) := (HS1.out.later hb); have HKU2 : Hid (SB w3 U setUp) := (HLU1.out.later hb); have HKL2 : Hid (SB w3 L setLo) := (HN1.out.later hb); clear hb c0 c1 c2 c3; rw [show Oct.join Oct.none (Oct.span 48 57) = setDi from rfl]; unfold setV)
  have HN2 : Hid (SB (w3.alloc (.cells #[.int .u64 (Oct.word setDi 0 : Nat), .int .u64 (Oct.word setDi 1 : Nat), .int .u64 (Oct.word setDi 2 : Nat), .int .u64 (Oct.word setDi 3 : Nat)] 25)) w3.heap.size setDi) := sb_new w3 setDi
  have HB2 : Hid (Below w3.heap.size w3 (w3.alloc (.cells #[.int .u64 (Oct.word setDi 0 : Nat), .int .u64 (Oct.word setDi 1 : Nat), .int .u64 (Oct.word setDi 2 : Nat), .int .u64 (Oct.word setDi 3 : Nat)] 25))) := (Below.refl _ _).alloc (Nat.le_refl _) _
  obtain ⟨u3, hu3⟩ : ∃ u, u = w3.alloc (.cells #[.int .u64 (Oct.word setDi 0 : Nat), .int .u64 (Oct.word setDi 1 : Nat), .int .u64 (Oct.word setDi 2 : Nat), .int .u64 (Oct.word setDi 3 : Nat)] 25) := ⟨_, rfl⟩
  obtain ⟨D, hD⟩ : ∃ A, A = w3.heap.size := ⟨_, rfl⟩
  rw [← hu3] at HN2 HB2 ⊢
  rw [← hD] at HN2 ⊢
  have HS2 : Hid (St w u3 R S Oct.none) := HT2.out.later HB2.out
  have HLU2 : Hid (SB u3 U setUp) := HKU2.out.later HB2.out
  have HLL2 : Hid (SB u3 L setLo) := HKL2.out.later HB2.out
  clear hu3 hD HB2 HT2 HKU2 HKL2
  have H3 : Hid (C3 w u3 R S U L D) := ⟨HS2.out.1, HS2.out.2.1, HLU2.out, HLL2.out, HN2.out, HS2.out.2.2, by rw [HRR.out]; exact Nat.le_refl _⟩
  clear HS HS0 HS1 HS2 HLU2 HLL2 HN2 HRR HSS
  obtain ⟨c0, c1, c2, c3⟩ := H3.out.no.cells
  go_wp2_with fail
  refine (rin_lit Oct.none 32 126 _ _ rfl rfl _ (by decide) (by decide)).mono ?_
  rintro e v0 ⟨rfl, hb⟩
  have HX0 : Hid (C3 w v0 R S U L D) := H3.out.later hb
  clear hb
  unfold setV
  clear c0 c1 c2 c3
  obtain ⟨d0, d1, d2, d3⟩ := HX0.out.res.cells
  have g0 := HX0.out.res.frozen 0
  have g1 := HX0.out.res.frozen 1
  have g2 := HX0.out.res.frozen 2
  have g3 := HX0.out.res.frozen 3
  go_wp2
  exact HX0.out.end_ (Oct.join Oct.none (Oct.span 32 126)) _ (by decide +kernel) rfl rfl rfl

set_option maxRecDepth 4000 in
set_option maxHeartbeats 4000000 in
theorem rclass_punct (w : World) : Calls Try.prog 74 #[.string ⟨#[112, 117, 110, 99, 116]⟩] w fun e w' => e = .returned (.tuple #[setV punct, .bool true]) ∧ Below w.heap.size w w' := by
  obtain ⟨u0, hu0⟩ : ∃ u0, u0 = (w.alloc (.cells #[.int .u64 0, .int .u64 0, .int .u64 0, .int .u64 0] 25)).alloc (.cells #[.int .u64 0, .int .u64 0, .int .u64 0, .int .u64 0] 25) := ⟨_, rfl⟩
  have HS : Hid (St w u0 w.heap.size (w.heap.size + 1) Oct.none) := by rw [hu0]; exact start2 w
  have HU : Hid (u0 = _) := hu0
  clear hu0
  obtain ⟨R, hR⟩ : ∃ R, R = w.heap.size := ⟨_, rfl⟩
  obtain ⟨S, hS⟩ : ∃ S, S = w.heap.size + 1 := ⟨_, rfl⟩
  rw [← hS, ← hR] at HS
  have HRR : Hid (R = _) := hR
  have HSS : Hid (S = _) := hS
  clear hR hS
  go_enter Try.func74, Try.ntmps74
  go_upto_region 2 with fail
  rw [← HU.out, ← HSS.out, ← HRR.out]
  clear HU
  obtain ⟨⟨c0, c1, c2, c3⟩, _, _, _⟩ := HS.out.facts
  go_upto_region 3 with (go_at_call 80; refine (rin_lit Oct.none 65 90 _ _ rfl rfl _ (by decide) (by decide)).mono ?_; rintro e w1 ⟨rfl, hb⟩; have HT0 : Hid (St w w1 R S Oct.none) := (HS.out.later hb); clear hb c0 c1 c2 c3; rw [show Oct.join Oct.none (Oct.span 65 90) = setUp from rfl]; unfold setV)
  have HN0 : Hid (SB (w1.alloc (.cells #[.int .u64 (Oct.word setUp 0 : Nat), .int .u64 (Oct.word setUp 1 : Nat), .int .u64 (Oct.word setUp 2 : Nat), .int .u64 (Oct.word setUp 3 : Nat)] 25)) w1.heap.size setUp) := sb_new w1 setUp
  have HB0 : Hid (Below w1.heap.size w1 (w1.alloc (.cells #[.int .u64 (Oct.word setUp 0 : Nat), .int .u64 (Oct.word setUp 1 : Nat), .int .u64 (Oct.word setUp 2 : Nat), .int .u64 (Oct.word setUp 3 : Nat)] 25))) := (Below.refl _ _).alloc (Nat.le_refl _) _
  obtain ⟨u1, hu1⟩ : ∃ u, u = w1.alloc (.cells #[.int .u64 (Oct.word setUp 0 : Nat), .int .u64 (Oct.word setUp 1 : Nat), .int .u64 (Oct.word setUp 2 : Nat), .int .u64 (Oct.word setUp 3 : Nat)] 25) := ⟨_, rfl⟩
  obtain ⟨U, hU⟩ : ∃ A, A = w1.heap.size := ⟨_, rfl⟩
  rw [← hu1] at HN0 HB0 ⊢
  rw [← hU] at HN0 ⊢
  have HS0 : Hid (St w u1 R S Oct.none) := HT0.out.later HB0.out
  clear hu1 hU HB0 HT0 
  obtain ⟨⟨c0, c1, c2, c3⟩, _, _, _⟩ := HS0.out.facts
  go_upto_region 4 with (go_at_call 80; refine (rin_lit Oct.none 97 122 _ _ rfl rfl _ (by decide) (by decide)).mono ?_; rintro e w2 ⟨rfl, hb⟩; have HT1 : Hid (St w w2 R S Oct.none) := (HS0.out.later hb); have HKU1 : Hid (SB w2 U setUp) := (HN0.out.later hb); clear hb c0 c1 c2 c3; rw [show Oct.join Oct.none (Oct.span 97 122) = setLo from rfl]; unfold setV)
  have HN1 : Hid (SB (w2.alloc (.cells #[.int .u64 (Oct.word setLo 0 : Nat), .int .u64 (Oct.word setLo 1 : Nat), .int .u64 (Oct.word setLo 2 : Nat), .int .u64 (Oct.word setLo 3 : Nat)] 25)) w2.heap.size setLo) := sb_new w2 setLo
  have HB1 : Hid (Below w2.heap.size w2 (w2.alloc (.cells #[.int .u64 (Oct.word setLo 0 : Nat), .int .u64 (Oct.word setLo 1 : Nat), .int .u64 (Oct.word setLo 2 : Nat), .int .u64 (Oct.word setLo 3 : Nat)] 25))) := (Below.refl _ _).alloc (Nat.le_refl _) _
  obtain ⟨u2, hu2⟩ : ∃ u, u = w2.alloc (.cells #[.int .u64 (Oct.word setLo 0 : Nat), .int .u64 (Oct.word setLo 1 : Nat), .int .u64 (Oct.word setLo 2 : Nat), .int .u64 (Oct.word setLo 3 : Nat)] 25) := ⟨_, rfl⟩
  obtain ⟨L, hL⟩ : ∃ A, A = w2.heap.size := ⟨_, rfl⟩
  rw [← hu2] at HN1 HB1 ⊢
  rw [← hL] at HN1 ⊢
  have HS1 : Hid (St w u2 R S Oct.none) := HT1.out.later HB1.out
  have HLU1 : Hid (SB u2 U setUp) := HKU1.out.later HB1.out
  clear hu2 hL HB1 HT1 HKU1
  obtain ⟨⟨c0, c1, c2, c3⟩, _, _, _⟩ := HS1.out.facts
  go_upto_region 5 with (go_at_call 80; refine (rin_lit Oct.none 48 57 _ _ rfl rfl _ (by decide) (by decide)).mono ?_; rintro e w3 ⟨rfl, hb⟩; have HT2 : Hid (St w w3 R S Oct.none) := (HS1.out.later hb); have HKU2 : Hid (SB w3 U setUp) := (HLU1.out.later hb); have HKL2 : Hid (SB w3 L setLo) := (HN1.out.later hb); clear hb c0 c1 c2 c3; rw [show Oct.join Oct.none (Oct.span 48 57) = setDi from rfl]; unfold setV)
  have HN2 : Hid (SB (w3.alloc (.cells #[.int .u64 (Oct.word setDi 0 : Nat), .int .u64 (Oct.word setDi 1 : Nat), .int .u64 (Oct.word setDi 2 : Nat), .int .u64 (Oct.word setDi 3 : Nat)] 25)) w3.heap.size setDi) := sb_new w3 setDi
  have HB2 : Hid (Below w3.heap.size w3 (w3.alloc (.cells #[.int .u64 (Oct.word setDi 0 : Nat), .int .u64 (Oct.word setDi 1 : Nat), .int .u64 (Oct.word setDi 2 : Nat), .int .u64 (Oct.word setDi 3 : Nat)] 25))) := (Below.refl _ _).alloc (Nat.le_refl _) _
  obtain ⟨u3, hu3⟩ : ∃ u, u = w3.alloc (.cells #[.int .u64 (Oct.word setDi 0 : Nat), .int .u64 (Oct.word setDi 1 : Nat), .int .u64 (Oct.word setDi 2 : Nat), .int .u64 (Oct.word setDi 3 : Nat)] 25) := ⟨_, rfl⟩
  obtain ⟨D, hD⟩ : ∃ A, A = w3.heap.size := ⟨_, rfl⟩
  rw [← hu3] at HN2 HB2 ⊢
  rw [← hD] at HN2 ⊢
  have HS2 : Hid (St w u3 R S Oct.none) := HT2.out.later HB2.out
  have HLU2 : Hid (SB u3 U setUp) := HKU2.out.later HB2.out
  have HLL2 : Hid (SB u3 L setLo) := HKL2.out.later HB2.out
  clear hu3 hD HB2 HT2 HKU2 HKL2
  have H3 : Hid (C3 w u3 R S U L D) := ⟨HS2.out.1, HS2.out.2.1, HLU2.out, HLL2.out, HN2.out, HS2.out.2.2, by rw [HRR.out]; exact Nat.le_refl _⟩
  clear HS HS0 HS1 HS2 HLU2 HLL2 HN2 HRR HSS
  obtain ⟨c0, c1, c2, c3⟩ := H3.out.no.cells
  go_wp2_with fail
  refine (rin_lit Oct.none 33 47 _ _ rfl rfl _ (by decide) (by decide)).mono ?_
  rintro e v0 ⟨rfl, hb⟩
  have HX0 : Hid (C3 w v0 R S U L D) := H3.out.later hb
  clear hb
  unfold setV
  clear c0 c1 c2 c3
  go_wp2_with fail
  refine (rin_lit (Oct.join Oct.none (Oct.span 33 47)) 58 64 _ _ rfl rfl _ (by decide) (by decide)).mono ?_
  rintro e v1 ⟨rfl, hb⟩
  have HX1 : Hid (C3 w v1 R S U L D) := HX0.out.later hb
  clear hb
  unfold setV
  go_wp2_with fail
  refine (rin_lit (Oct.join (Oct.join Oct.none (Oct.span 33 47)) (Oct.span 58 64)) 91 96 _ _ rfl rfl _ (by decide) (by decide)).mono ?_
  rintro e v2 ⟨rfl, hb⟩
  have HX2 : Hid (C3 w v2 R S U L D) := HX1.out.later hb
  clear hb
  unfold setV
  go_wp2_with fail
  refine (rin_lit (Oct.join (Oct.join (Oct.join Oct.none (Oct.span 33 47)) (Oct.span 58 64)) (Oct.span 91 96)) 123 126 _ _ rfl rfl _ (by decide) (by decide)).mono ?_
  rintro e v3 ⟨rfl, hb⟩
  have HX3 : Hid (C3 w v3 R S U L D) := HX2.out.later hb
  clear hb
  unfold setV
  obtain ⟨d0, d1, d2, d3⟩ := HX3.out.res.cells
  have g0 := HX3.out.res.frozen 0
  have g1 := HX3.out.res.frozen 1
  have g2 := HX3.out.res.frozen 2
  have g3 := HX3.out.res.frozen 3
  go_wp2
  exact HX3.out.end_ (Oct.join (Oct.join (Oct.join (Oct.join Oct.none (Oct.span 33 47)) (Oct.span 58 64)) (Oct.span 91 96)) (Oct.span 123 126)) _ (by decide +kernel) rfl rfl rfl

set_option maxRecDepth 4000 in
set_option maxHeartbeats 4000000 in
theorem rclass_no (n : ByteArray) (w : World) (hupper : (n.toList == [117, 112, 112, 101, 114]) = false) (hlower : (n.toList == [108, 111, 119, 101, 114]) = false) (hdigit : (n.toList == [100, 105, 103, 105, 116]) = false) (halpha : (n.toList == [97, 108, 112, 104, 97]) = false) (halnum : (n.toList == [97, 108, 110, 117, 109]) = false) (hxdigit : (n.toList == [120, 100, 105, 103, 105, 116]) = false) (hblank : (n.toList == [98, 108, 97, 110, 107]) = false) (hspace : (n.toList == [115, 112, 97, 99, 101]) = false) (hcntrl : (n.toList == [99, 110, 116, 114, 108]) = false) (hgraph : (n.toList == [103, 114, 97, 112, 104]) = false) (hprint : (n.toList == [112, 114, 105, 110, 116]) = false) (hpunct : (n.toList == [112, 117, 110, 99, 116]) = false) : Calls Try.prog 74 #[.string n] w fun e w' => e = .returned (.tuple #[setV Oct.none, .bool false]) ∧ Below w.heap.size w w' := by
  obtain ⟨u0, hu0⟩ : ∃ u0, u0 = (w.alloc (.cells #[.int .u64 0, .int .u64 0, .int .u64 0, .int .u64 0] 25)).alloc (.cells #[.int .u64 0, .int .u64 0, .int .u64 0, .int .u64 0] 25) := ⟨_, rfl⟩
  have HS : Hid (St w u0 w.heap.size (w.heap.size + 1) Oct.none) := by rw [hu0]; exact start2 w
  have HU : Hid (u0 = _) := hu0
  clear hu0
  obtain ⟨R, hR⟩ : ∃ R, R = w.heap.size := ⟨_, rfl⟩
  obtain ⟨S, hS⟩ : ∃ S, S = w.heap.size + 1 := ⟨_, rfl⟩
  rw [← hS, ← hR] at HS
  have HRR : Hid (R = _) := hR
  have HSS : Hid (S = _) := hS
  clear hR hS
  go_enter Try.func74, Try.ntmps74
  go_upto_region 2 with fail
  rw [← HU.out, ← HSS.out, ← HRR.out]
  clear HU
  obtain ⟨⟨c0, c1, c2, c3⟩, _, _, _⟩ := HS.out.facts
  go_upto_region 3 with (go_at_call 80; refine (rin_lit Oct.none 65 90 _ _ rfl rfl _ (by decide) (by decide)).mono ?_; rintro e w1 ⟨rfl, hb⟩; have HT0 : Hid (St w w1 R S Oct.none) := (HS.out.later hb); clear hb c0 c1 c2 c3; rw [show Oct.join Oct.none (Oct.span 65 90) = setUp from rfl]; unfold setV)
  have HN0 : Hid (SB (w1.alloc (.cells #[.int .u64 (Oct.word setUp 0 : Nat), .int .u64 (Oct.word setUp 1 : Nat), .int .u64 (Oct.word setUp 2 : Nat), .int .u64 (Oct.word setUp 3 : Nat)] 25)) w1.heap.size setUp) := sb_new w1 setUp
  have HB0 : Hid (Below w1.heap.size w1 (w1.alloc (.cells #[.int .u64 (Oct.word setUp 0 : Nat), .int .u64 (Oct.word setUp 1 : Nat), .int .u64 (Oct.word setUp 2 : Nat), .int .u64 (Oct.word setUp 3 : Nat)] 25))) := (Below.refl _ _).alloc (Nat.le_refl _) _
  obtain ⟨u1, hu1⟩ : ∃ u, u = w1.alloc (.cells #[.int .u64 (Oct.word setUp 0 : Nat), .int .u64 (Oct.word setUp 1 : Nat), .int .u64 (Oct.word setUp 2 : Nat), .int .u64 (Oct.word setUp 3 : Nat)] 25) := ⟨_, rfl⟩
  obtain ⟨U, hU⟩ : ∃ A, A = w1.heap.size := ⟨_, rfl⟩
  rw [← hu1] at HN0 HB0 ⊢
  rw [← hU] at HN0 ⊢
  have HS0 : Hid (St w u1 R S Oct.none) := HT0.out.later HB0.out
  clear hu1 hU HB0 HT0 
  obtain ⟨⟨c0, c1, c2, c3⟩, _, _, _⟩ := HS0.out.facts
  go_upto_region 4 with (go_at_call 80; refine (rin_lit Oct.none 97 122 _ _ rfl rfl _ (by decide) (by decide)).mono ?_; rintro e w2 ⟨rfl, hb⟩; have HT1 : Hid (St w w2 R S Oct.none) := (HS0.out.later hb); have HKU1 : Hid (SB w2 U setUp) := (HN0.out.later hb); clear hb c0 c1 c2 c3; rw [show Oct.join Oct.none (Oct.span 97 122) = setLo from rfl]; unfold setV)
  have HN1 : Hid (SB (w2.alloc (.cells #[.int .u64 (Oct.word setLo 0 : Nat), .int .u64 (Oct.word setLo 1 : Nat), .int .u64 (Oct.word setLo 2 : Nat), .int .u64 (Oct.word setLo 3 : Nat)] 25)) w2.heap.size setLo) := sb_new w2 setLo
  have HB1 : Hid (Below w2.heap.size w2 (w2.alloc (.cells #[.int .u64 (Oct.word setLo 0 : Nat), .int .u64 (Oct.word setLo 1 : Nat), .int .u64 (Oct.word setLo 2 : Nat), .int .u64 (Oct.word setLo 3 : Nat)] 25))) := (Below.refl _ _).alloc (Nat.le_refl _) _
  obtain ⟨u2, hu2⟩ : ∃ u, u = w2.alloc (.cells #[.int .u64 (Oct.word setLo 0 : Nat), .int .u64 (Oct.word setLo 1 : Nat), .int .u64 (Oct.word setLo 2 : Nat), .int .u64 (Oct.word setLo 3 : Nat)] 25) := ⟨_, rfl⟩
  obtain ⟨L, hL⟩ : ∃ A, A = w2.heap.size := ⟨_, rfl⟩
  rw [← hu2] at HN1 HB1 ⊢
  rw [← hL] at HN1 ⊢
  have HS1 : Hid (St w u2 R S Oct.none) := HT1.out.later HB1.out
  have HLU1 : Hid (SB u2 U setUp) := HKU1.out.later HB1.out
  clear hu2 hL HB1 HT1 HKU1
  obtain ⟨⟨c0, c1, c2, c3⟩, _, _, _⟩ := HS1.out.facts
  go_upto_region 5 with (go_at_call 80; refine (rin_lit Oct.none 48 57 _ _ rfl rfl _ (by decide) (by decide)).mono ?_; rintro e w3 ⟨rfl, hb⟩; have HT2 : Hid (St w w3 R S Oct.none) := (HS1.out.later hb); have HKU2 : Hid (SB w3 U setUp) := (HLU1.out.later hb); have HKL2 : Hid (SB w3 L setLo) := (HN1.out.later hb); clear hb c0 c1 c2 c3; rw [show Oct.join Oct.none (Oct.span 48 57) = setDi from rfl]; unfold setV)
  have HN2 : Hid (SB (w3.alloc (.cells #[.int .u64 (Oct.word setDi 0 : Nat), .int .u64 (Oct.word setDi 1 : Nat), .int .u64 (Oct.word setDi 2 : Nat), .int .u64 (Oct.word setDi 3 : Nat)] 25)) w3.heap.size setDi) := sb_new w3 setDi
  have HB2 : Hid (Below w3.heap.size w3 (w3.alloc (.cells #[.int .u64 (Oct.word setDi 0 : Nat), .int .u64 (Oct.word setDi 1 : Nat), .int .u64 (Oct.word setDi 2 : Nat), .int .u64 (Oct.word setDi 3 : Nat)] 25))) := (Below.refl _ _).alloc (Nat.le_refl _) _
  obtain ⟨u3, hu3⟩ : ∃ u, u = w3.alloc (.cells #[.int .u64 (Oct.word setDi 0 : Nat), .int .u64 (Oct.word setDi 1 : Nat), .int .u64 (Oct.word setDi 2 : Nat), .int .u64 (Oct.word setDi 3 : Nat)] 25) := ⟨_, rfl⟩
  obtain ⟨D, hD⟩ : ∃ A, A = w3.heap.size := ⟨_, rfl⟩
  rw [← hu3] at HN2 HB2 ⊢
  rw [← hD] at HN2 ⊢
  have HS2 : Hid (St w u3 R S Oct.none) := HT2.out.later HB2.out
  have HLU2 : Hid (SB u3 U setUp) := HKU2.out.later HB2.out
  have HLL2 : Hid (SB u3 L setLo) := HKL2.out.later HB2.out
  clear hu3 hD HB2 HT2 HKU2 HKL2
  have H3 : Hid (C3 w u3 R S U L D) := ⟨HS2.out.1, HS2.out.2.1, HLU2.out, HLL2.out, HN2.out, HS2.out.2.2, by rw [HRR.out]; exact Nat.le_refl _⟩
  clear HS HS0 HS1 HS2 HLU2 HLL2 HN2 HRR HSS
  obtain ⟨c0, c1, c2, c3⟩ := H3.out.no.cells
  obtain ⟨d0, d1, d2, d3⟩ := H3.out.res.cells
  have g0 := H3.out.res.frozen 0
  have g1 := H3.out.res.frozen 1
  have g2 := H3.out.res.frozen 2
  have g3 := H3.out.res.frozen 3
  go_wp2
  exact H3.out.end_ Oct.none _ (fun b _ => rfl) rfl rfl rfl

theorem rclass_any (n : ByteArray) (w : World) : Calls Try.prog 74 #[.string n] w fun e w' => e = .returned (.tuple #[setV (classOf n).1, .bool (decide ((classOf n).2 = 0))]) ∧ Below w.heap.size w w' := by
  unfold classOf
  cases halpha : (n.toList == [97, 108, 112, 104, 97]) with
  | true =>
    obtain rfl := name_of halpha
    exact rclass_alpha w
  | false =>
  cases hdigit : (n.toList == [100, 105, 103, 105, 116]) with
  | true =>
    obtain rfl := name_of hdigit
    exact rclass_digit w
  | false =>
  cases halnum : (n.toList == [97, 108, 110, 117, 109]) with
  | true =>
    obtain rfl := name_of halnum
    exact rclass_alnum w
  | false =>
  cases hupper : (n.toList == [117, 112, 112, 101, 114]) with
  | true =>
    obtain rfl := name_of hupper
    exact rclass_upper w
  | false =>
  cases hlower : (n.toList == [108, 111, 119, 101, 114]) with
  | true =>
    obtain rfl := name_of hlower
    exact rclass_lower w
  | false =>
  cases hxdigit : (n.toList == [120, 100, 105, 103, 105, 116]) with
  | true =>
    obtain rfl := name_of hxdigit
    exact rclass_xdigit w
  | false =>
  cases hblank : (n.toList == [98, 108, 97, 110, 107]) with
  | true =>
    obtain rfl := name_of hblank
    exact rclass_blank w
  | false =>
  cases hspace : (n.toList == [115, 112, 97, 99, 101]) with
  | true =>
    obtain rfl := name_of hspace
    exact rclass_space w
  | false =>
  cases hcntrl : (n.toList == [99, 110, 116, 114, 108]) with
  | true =>
    obtain rfl := name_of hcntrl
    exact rclass_cntrl w
  | false =>
  cases hgraph : (n.toList == [103, 114, 97, 112, 104]) with
  | true =>
    obtain rfl := name_of hgraph
    exact rclass_graph w
  | false =>
  cases hprint : (n.toList == [112, 114, 105, 110, 116]) with
  | true =>
    obtain rfl := name_of hprint
    exact rclass_print w
  | false =>
  cases hpunct : (n.toList == [112, 117, 110, 99, 116]) with
  | true =>
    obtain rfl := name_of hpunct
    exact rclass_punct w
  | false =>
  exact rclass_no n w hupper hlower hdigit halpha halnum hxdigit hblank hspace hcntrl hgraph hprint hpunct

theorem class_code (n : ByteArray) : (classOf n).2 = 0 ∨ (classOf n).2 = 30 := by
  unfold classOf
  cases halpha : (n.toList == [97, 108, 112, 104, 97]) with
  | true => exact Or.inl rfl
  | false =>
  cases hdigit : (n.toList == [100, 105, 103, 105, 116]) with
  | true => exact Or.inl rfl
  | false =>
  cases halnum : (n.toList == [97, 108, 110, 117, 109]) with
  | true => exact Or.inl rfl
  | false =>
  cases hupper : (n.toList == [117, 112, 112, 101, 114]) with
  | true => exact Or.inl rfl
  | false =>
  cases hlower : (n.toList == [108, 111, 119, 101, 114]) with
  | true => exact Or.inl rfl
  | false =>
  cases hxdigit : (n.toList == [120, 100, 105, 103, 105, 116]) with
  | true => exact Or.inl rfl
  | false =>
  cases hblank : (n.toList == [98, 108, 97, 110, 107]) with
  | true => exact Or.inl rfl
  | false =>
  cases hspace : (n.toList == [115, 112, 97, 99, 101]) with
  | true => exact Or.inl rfl
  | false =>
  cases hcntrl : (n.toList == [99, 110, 116, 114, 108]) with
  | true => exact Or.inl rfl
  | false =>
  cases hgraph : (n.toList == [103, 114, 97, 112, 104]) with
  | true => exact Or.inl rfl
  | false =>
  cases hprint : (n.toList == [112, 114, 105, 110, 116]) with
  | true => exact Or.inl rfl
  | false =>
  cases hpunct : (n.toList == [112, 117, 110, 99, 116]) with
  | true => exact Or.inl rfl
  | false =>
  exact Or.inr rfl

end Go.Proofs.Ytlcnmfgmgiijpaa
