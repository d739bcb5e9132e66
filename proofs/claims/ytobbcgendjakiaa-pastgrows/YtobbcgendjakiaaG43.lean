/- heronlaw15: begun. -/
import Derived.Test.YtobbcgendjakiaaG41
import Derived.Test.YtobbcgendjakiaaG42
import Derived.Lib.SlBytesConst
namespace Go.Proofs.Ytobbcgendjakiaa
open Go.RowKit Go.Maps Sf
attribute [local go_sem ↓] Go.wp_at_zero Go.wp_at_succ

theorem lo_step {P : Nat → Prop} {w u v : World} (h : Below w.heap.size w u) (hf : FrP P u v) (hp : ∀ k, P k → w.heap.size ≤ k) : Below w.heap.size w v ∧ ∀ k, More P u v k → w.heap.size ≤ k := by
  refine ⟨⟨hf.os.trans h.os, hf.tape.trans h.tape, hf.output.trans h.output, Nat.le_trans h.size hf.size, fun k hk => (hf.block k (Nat.lt_of_lt_of_le hk h.size) (fun x => by have := hp k x; omega)).trans (h.block k hk)⟩, fun k hk => ?_⟩
  rcases hk with hk | hk
  · exact hp k hk
  · have := h.size; omega
theorem lat_const (w : World) (l : List UInt8) (fr : Nat × Nat) (hl : l.length ≤ 1000) : LAt (w.alloc (.cells (uv l).toArray 5 fr)) (.slice (some ⟨w.heap.size, 0, none⟩) l.length l.length) (uv l) := by
  refine ⟨_, _, by rw [uv_len], by rw [uv_len]; exact Nat.le_refl _, by omega, .inr ⟨w.heap.size, 0, rfl, fun k v hv => ?_⟩⟩
  rw [World.cell?_alloc_mark]
  simpa using hv
/-- what begun hands back -/
structure Sd (w : World) (Bs : Nat) (w' : World) : Prop where
  ex : ∃ (Bd Bp b14 b15 : Nat) (Pd Pp : Nat → Prop), w'.heap[Bs]? = some (.cells #[.pointer (some ⟨Bd, 0, none⟩), .pointer (some ⟨b14, 0, none⟩), .pointer (some ⟨Bp, 0, none⟩), .pointer (some ⟨b15, 0, none⟩), .slice none 0 0, .slice none 0 0, .slice none 0 0, .slice none 0 0] 32 (0, 0)) ∧ Dsk Pd w' Bd Sf.new 0 ∧ Pst Pp w' Bp Pv.new 0 ∧ (∀ k, Pd k → w.heap.size ≤ k) ∧ (∀ k, Pp k → w.heap.size ≤ k) ∧ (∀ k, Pp k → ¬ Pd k)
  lo : Below w.heap.size w w'
theorem own_one {w : World} {B : Nat} {e : TypeId} {V v : Value} (h : w.ownsRow B e 1 V 1 [v]) : ∃ g c, V = .slice (some ⟨g, 0, none⟩) 1 c ∧ w.cell? ⟨g, 0, none⟩ = some v ∧ 1 ≤ c := by
  have hl := owns_lat h
  rcases h.2 with ⟨_, h0⟩ | ⟨g, cap, cur, rfl, _⟩
  · cases h0
  · obtain ⟨a', c', e, h1, h2, h3⟩ := hl
    rcases h3 with h3 | ⟨b, off, e2, hc⟩
    · cases h3
    · rw [e2] at e
      cases e
      exact ⟨g, cap, rfl, hc 0 v rfl, h1⟩
set_option maxRecDepth 8000 in
set_option maxHeartbeats 4000000 in
theorem begun_any (w : World) : Calls Try.prog 5 #[] w fun e w' => ∃ Bs, e = .returned (.pointer (some ⟨Bs, 0, none⟩)) ∧ Sd w Bs w' := by
  have hp1 : ∀ (p : Option Addr) (u : World), (binOp .eql 25 (.pointer p) (.pointer none)).run Try.prog u = .ok (.bool p.isNone) u := fun p u => run_eql_pointer_nil u _ p (by kernel_rfl)
  have hp2 : ∀ (p : Option Addr) (u : World), (binOp .eql 27 (.pointer p) (.pointer none)).run Try.prog u = .ok (.bool p.isNone) u := fun p u => run_eql_pointer_nil u _ p (by kernel_rfl)
  have kc : ∀ (u : World) (C : Array Value) (n c : Nat), (convert 63 63 (.slice (some ⟨u.heap.size, 0, none⟩) n c)).run Try.prog (u.alloc (.cells C 5)) = .ok (.slice (some ⟨u.heap.size, 0, none⟩) n c) (u.alloc (.cells C 5 (C.size, C.size + 1))) := fun u C n c => Lib.run_convert_bytes_const (P := Try.prog) u 63 5 C n c (by kernel_rfl) Try.underlying5
  have HN : Hid (Calls Try.prog 18 #[] w _) := new_any w
  go_enter Try.func5, Try.ntmps5
  go_wp2_with fail
  refine HN.out.mono ?_
  rintro e w1 ⟨B1, P1, rfl, hd1, hlo1, k1⟩
  have HP : Hid (Calls Try.prog 19 #[] w1 _) := pnew_any w1
  have HD1 : Hid (Dsk P1 w1 B1 Sf.new 0 ∧ Below w.heap.size w w1 ∧ ∀ k, P1 k → w.heap.size ≤ k) := ⟨hd1, k1, hlo1⟩
  clear HN hd1 hlo1 k1
  go_wp2_with fail
  refine HP.out.mono ?_
  rintro e w2 ⟨B2, Q, rfl, hq2, hlo2, k2⟩
  have HQ2 : Hid (Pst Q w2 B2 Pv.new 0 ∧ (∀ k, Q k → w1.heap.size ≤ k) ∧ Below w.heap.size w w2 ∧ Dsk P1 w2 B1 Sf.new 0) := ⟨hq2, hlo2, below_step HD1.out.2.1 k2, HD1.out.1.later k2⟩
  have HC : Hid (Calls Try.prog 20 #[.pointer (some ⟨B1, 0, none⟩), .string ⟨#[107]⟩] w2 _) := create_any HQ2.out.2.2.2 kS (by decide)
  clear HP hq2 hlo2 k2
  go_wp2_with fail
  refine HC.out.mono ?_
  rintro e w3 (⟨h1, _⟩ | ⟨_, rfl, hd⟩)
  · exact absurd bm_err0 h1
  have hd : DkTo P1 w2 B1 bD1 1 w3 := hd
  have H3 : Hid (Dsk (More P1 w2 w3) w3 B1 bD1 1 ∧ Pst Q w3 B2 Pv.new 0 ∧ (∀ k, Q k → ¬ More P1 w2 w3 k) ∧ Below w.heap.size w w3 ∧ (∀ k, More P1 w2 w3 k → w.heap.size ≤ k) ∧ ∀ k, Q k → w.heap.size ≤ k) := by
    have hl1 := HD1.out.1.m.low
    have hl2 := HQ2.out.1.low
    have hlo := lo_step HQ2.out.2.2.1 hd.2 HD1.out.2.2
    refine ⟨⟨bm_wf1, hd.1, by omega⟩, HQ2.out.1.keep (fun k hk => hd.2.block k (hl2 k hk) (fun x => by have := hl1 k x; have := HQ2.out.2.1 k hk; omega)) hd.2.size, fun k hk x => ?_, hlo.1, hlo.2, fun k hk => by have := HQ2.out.2.1 k hk; have := HD1.out.2.1.size; omega⟩
    rcases x with x | x
    · have := hl1 k x; have := HQ2.out.2.1 k hk; omega
    · have := hl2 k hk; omega
  obtain ⟨P3, hP3⟩ : ∃ P3, More P1 w2 w3 = P3 := ⟨_, rfl⟩
  rw [hP3] at H3
  clear hd HC HD1 HQ2 hP3
  obtain ⟨w4, hw4⟩ : ∃ w4, w3.alloc (.cells #[.int .u8 120, .int .u8 121, .int .u8 10, .int .u8 122] 5 (4, 5)) = w4 := ⟨_, rfl⟩
  have HW4 : Hid (w3.alloc (.cells #[.int .u8 120, .int .u8 121, .int .u8 10, .int .u8 122] 5 (4, 5)) = w4) := hw4
  have k4 : Below w3.heap.size w3 w4 := by rw [← hw4]; exact (Below.refl _ _).alloc (Nat.le_refl _) _
  have hla : LAt w4 (.slice (some ⟨w3.heap.size, 0, none⟩) 4 4) (uv tX) := by rw [← hw4]; exact lat_const w3 tX (4, 5) (by decide)
  have HC : Hid (Calls Try.prog 21 #[.pointer (some ⟨B1, 0, none⟩), .string ⟨#[107]⟩, .slice (some ⟨w3.heap.size, 0, none⟩) 4 4] w4 _) := append_any (H3.out.1.later k4) kS (by decide) hla
  have HK4 : Hid (Below w3.heap.size w3 w4) := k4
  clear hw4 k4 hla
  go_wp2_with fail
  rw [HW4.out]
  refine HC.out.mono ?_
  rintro e w5 (⟨h1, _⟩ | ⟨_, f, hf, (⟨h4, _⟩ | ⟨_, rfl, hd⟩)⟩)
  · exact absurd bm_err1 h1
  · rw [bm_num1, bm_ino1] at hf
    cases hf
    exact absurd h4 (by decide)
  rw [bm_num1, bm_ino1] at hf
  cases hf
  rw [bm_num1] at hd
  have hd : DkTo P3 w4 B1 bD2 1 w5 := hd
  have H5 : Hid (Dsk (More P3 w4 w5) w5 B1 bD2 2 ∧ Pst Q w5 B2 Pv.new 0 ∧ (∀ k, Q k → ¬ More P3 w4 w5 k) ∧ Below w.heap.size w w5 ∧ ∀ k, Q k → w.heap.size ≤ k) := by
    have hl2 := H3.out.2.1.low
    have hq4 := H3.out.2.1.later HK4.out
    have hlo := lo_step (below_step H3.out.2.2.2.1 HK4.out) hd.2 H3.out.2.2.2.2.1
    refine ⟨⟨bm_wf2, hd.1.up (by omega), by omega⟩, hq4.keep (fun k hk => hd.2.block k (hq4.low k hk) (fun x => H3.out.2.2.1 k hk x)) hd.2.size, fun k hk x => ?_, hlo.1, H3.out.2.2.2.2.2⟩
    rcases x with x | x
    · exact H3.out.2.2.1 k hk x
    · have := hq4.low k hk; omega
  obtain ⟨P5, hP5⟩ : ∃ P5, More P3 w4 w5 = P5 := ⟨_, rfl⟩
  rw [hP5] at H5
  have HS : Hid (Calls Try.prog 17 #[.pointer (some ⟨B2, 0, none⟩), .int .i64 1, .int .i64 0, .int .i64 0, .string ⟨#[120, 121]⟩] w5 fun e w' => e = .returned (.bool false) ∧ w' = w5) := (stood_any H5.out.2.1 1 0 0 (by unfold goodI; omega) (by unfold goodI; omega) (by unfold goodI; omega) ⟨#[120, 121]⟩ (by decide)).mono (fun e w' x => by rw [bm_st0] at x; exact x)
  have HE : Hid (Calls Try.prog 7 #[.pointer (some ⟨B2, 0, none⟩), .pointer (some ⟨B1, 0, none⟩)] w5 fun e w' => e = .returned (.tuple #[]) ∧ PaTo Q w5 B2 bP 2 w') := (see_any H5.out.2.1 H5.out.1 H5.out.2.2.1 (by rw [bm_names]; decide)).mono (fun e w' x => by rw [bm_names] at x; exact x)
  clear hd HC H3 hP5 HK4 HW4
  go_wp2_with fail
  refine HS.out.mono ?_
  rintro e w6 ⟨rfl, rfl⟩
  clear HS
  go_wp2_with fail
  refine HE.out.mono ?_
  rintro e w7 ⟨rfl, h7⟩
  have H7 : Hid (Pst (More Q w6 w7) w7 B2 bP 2 ∧ Below w.heap.size w w7) := ⟨h7.1, (lo_step H5.out.2.2.2.1 h7.2 H5.out.2.2.2.2).1⟩
  clear HE h7 H5
  have HL : Hid (Calls Try.prog 8 #[.pointer (some ⟨B2, 0, none⟩), .int .i64 1, .int .i64 0] w7 fun e W' => ∃ g1 c1 g2 c2, e = .returned (.tuple #[.slice (some ⟨g1, 0, none⟩) 1 c1, .slice (some ⟨g2, 0, none⟩) 1 c2]) ∧ W'.cell? ⟨g1, 0, none⟩ = some (.string ⟨#[120, 121]⟩) ∧ W'.cell? ⟨g2, 0, none⟩ = some (.int .i64 0) ∧ Below w7.heap.size w7 W') := (lines_any H7.out.1 1 0 (by unfold goodI; omega) (by unfold goodI; omega)).mono (fun e W' x => by
    obtain ⟨V1, V2, rfl, r1, r2, hb⟩ := x
    rw [bm_sh, bm_lines] at r1 r2
    obtain ⟨g1, c1, rfl, q1, _⟩ := own_one r1
    obtain ⟨g2, c2, rfl, q2, _⟩ := own_one r2
    exact ⟨g1, c1, g2, c2, rfl, q1, q2, hb⟩)
  go_wp2_with fail
  refine HL.out.mono ?_
  rintro e w8 ⟨g1, c1, g2, c2, rfl, q1, q2, k8⟩
  have H8 : Hid (Pst (More Q w6 w7) w8 B2 bP 2 ∧ Below w.heap.size w w8) := ⟨H7.out.1.later k8, below_step H7.out.2 k8⟩
  have HS1 : Hid (Calls Try.prog 17 #[.pointer (some ⟨B2, 0, none⟩), .int .i64 1, .int .i64 0, .int .i64 0, .string ⟨#[120, 121]⟩] w8 fun e w' => e = .returned (.bool true) ∧ w' = w8) := (stood_any H8.out.1 1 0 0 (by unfold goodI; omega) (by unfold goodI; omega) (by unfold goodI; omega) ⟨#[120, 121]⟩ (by decide)).mono (fun e w' x => by rw [bm_sh, bm_st1] at x; exact x)
  have HS2 : Hid (Calls Try.prog 17 #[.pointer (some ⟨B2, 0, none⟩), .int .i64 1, .int .i64 0, .int .i64 3, .string ⟨#[122]⟩] w8 fun e w' => e = .returned (.bool false) ∧ w' = w8) := (stood_any H8.out.1 1 0 3 (by unfold goodI; omega) (by unfold goodI; omega) (by unfold goodI; omega) ⟨#[122]⟩ (by decide)).mono (fun e w' x => by rw [bm_sh, bm_st2] at x; exact x)
  have HAR : Hid (Calls Try.prog 9 #[.pointer (some ⟨B2, 0, none⟩), .string ⟨#[107]⟩] w8 _) := arrivals_any H8.out.1 kS (by decide)
  clear HL H7 k8
  go_wp2_with fail
  refine HS1.out.mono ?_
  rintro e w9 ⟨rfl, hw9⟩
  rw [hw9]
  clear hw9 HS1
  go_wp2_with fail
  refine HS2.out.mono ?_
  rintro e w9 ⟨rfl, hw9⟩
  rw [hw9]
  clear hw9 HS2
  go_wp2_with fail
  refine HAR.out.mono ?_
  rintro e w9 ⟨V3, rfl, r3, k9⟩
  rw [bm_lb] at r3
  obtain ⟨g3, c3, rfl, _, _⟩ := own_one r3
  obtain ⟨w10, hw10⟩ : ∃ w10, w9.alloc (.cells #[.int .i64 1] 3) = w10 := ⟨_, rfl⟩
  have HW10 : Hid (w9.alloc (.cells #[.int .i64 1] 3) = w10) := hw10
  have k10 : Below w9.heap.size w9 w10 := by rw [← hw10]; exact (Below.refl _ _).alloc (Nat.le_refl _) _
  have hl2 : LAt w10 (.slice (some ⟨w9.heap.size, 0, none⟩) 1 1) (ints [1]) := by rw [← hw10]; exact lat_lit w9 (.int .i64 1) 3 (0, 0)
  have HSI : Hid (Calls Try.prog 11 #[.slice (some ⟨g3, 0, none⟩) 1 c3, .slice (some ⟨w9.heap.size, 0, none⟩) 1 1] w10 _) := sameInts_any ((owns_lat r3).later k10) hl2 (by decide)
  have H10 : Hid (Pst (More Q w6 w7) w10 B2 bP 2 ∧ Below w.heap.size w w10) := ⟨(H8.out.1.later k9).later k10, below_step (below_step H8.out.2 k9) k10⟩
  have q1' := cell_later (below_step k9 k10) _ _ _ q1
  have q2' := cell_later (below_step k9 k10) _ _ _ q2
  clear HAR r3 k9 k10 hw10 hl2 H8
  go_wp2_with fail
  rw [HW10.out]
  clear HW10
  refine HSI.out.mono ?_
  rintro e w11 ⟨rfl, k11⟩
  have H11 : Hid (Pst (More Q w6 w7) w11 B2 bP 2 ∧ Below w.heap.size w w11) := ⟨H10.out.1.later k11, below_step H10.out.2 k11⟩
  have HG1 : Hid (Calls Try.prog 16 #[.pointer (some ⟨B2, 0, none⟩), .int .i64 1] w11 fun e w' => e = .returned (.int .i64 1) ∧ w' = w11) := (gens_any H11.out.1 1 (by unfold goodI; omega)).mono (fun e w' x => by rw [bm_gn1] at x; exact x)
  have HG2 : Hid (Calls Try.prog 16 #[.pointer (some ⟨B2, 0, none⟩), .int .i64 2] w11 fun e w' => e = .returned (.int .i64 0) ∧ w' = w11) := (gens_any H11.out.1 2 (by unfold goodI; omega)).mono (fun e w' x => by rw [bm_gn2] at x; exact x)
  have HL11 : Hid (Below w.heap.size w w11) := H11.out.2
  clear HSI H10 k11 q1' q2' q1 q2
  go_wp2_with fail
  refine HG1.out.mono ?_
  rintro e w12 ⟨rfl, hw12⟩
  rw [hw12]
  clear hw12 HG1
  go_wp2_with fail
  refine HG2.out.mono ?_
  rintro e w12 ⟨rfl, hw12⟩
  rw [hw12]
  clear hw12 HG2 H11
  have HN : Hid (Calls Try.prog 18 #[] w11 _) := new_any w11
  go_wp2_with fail
  refine HN.out.mono ?_
  rintro e w13 ⟨Bd, Pd, rfl, hd, hlo, k13⟩
  have H13 : Hid (Dsk Pd w13 Bd Sf.new 0 ∧ (∀ k, Pd k → w.heap.size ≤ k) ∧ Below w.heap.size w w13) := ⟨hd, fun k hk => by have := hlo k hk; have := HL11.out.size; omega, below_step HL11.out k13⟩
  have HR : Hid (Calls Try.prog 22 #[] w13 _) := rnew14_any w13
  clear HN hd hlo k13 HL11
  go_wp2_with fail
  refine HR.out.mono ?_
  rintro e w14 ⟨b14, rfl, k14⟩
  have HPN : Hid (Calls Try.prog 19 #[] w14 _) := pnew_any w14
  have HK14 : Hid (Below w13.heap.size w13 w14) := k14
  clear HR k14
  go_wp2_with fail
  refine HPN.out.mono ?_
  rintro e w15 ⟨Bp, Pp, rfl, hp, hlo, k15⟩
  have H15 : Hid (Pst Pp w15 Bp Pv.new 0 ∧ Dsk Pd w15 Bd Sf.new 0 ∧ (∀ k, Pd k → w.heap.size ≤ k) ∧ (∀ k, Pp k → w.heap.size ≤ k) ∧ (∀ k, Pp k → ¬ Pd k) ∧ Below w.heap.size w w15) := by
    have hl := H13.out.1.m.low
    have z1 := H13.out.2.2.size
    have z2 := HK14.out.size
    exact ⟨hp, (H13.out.1.later HK14.out).later k15, H13.out.2.1, fun k hk => by have := hlo k hk; omega, fun k hk x => by have := hlo k hk; have := hl k x; omega, below_step (below_step H13.out.2.2 HK14.out) k15⟩
  have HR : Hid (Calls Try.prog 23 #[] w15 _) := rnew15_any w15
  clear HPN hp hlo k15 H13 HK14
  go_wp2_with fail
  refine HR.out.mono ?_
  rintro e w16 ⟨b15, rfl, k16⟩
  obtain ⟨w17, hw17⟩ : ∃ w17, w16.alloc (.cells #[.pointer (some ⟨Bd, 0, none⟩), .pointer (some ⟨b14, 0, none⟩), .pointer (some ⟨Bp, 0, none⟩), .pointer (some ⟨b15, 0, none⟩), .slice none 0 0, .slice none 0 0, .slice none 0 0, .slice none 0 0] 32) = w17 := ⟨_, rfl⟩
  have HW17 : Hid (w16.alloc (.cells #[.pointer (some ⟨Bd, 0, none⟩), .pointer (some ⟨b14, 0, none⟩), .pointer (some ⟨Bp, 0, none⟩), .pointer (some ⟨b15, 0, none⟩), .slice none 0 0, .slice none 0 0, .slice none 0 0, .slice none 0 0] 32) = w17) := hw17
  have k17 : Below w15.heap.size w15 w17 := below_step k16 (by rw [← hw17]; exact (Below.refl _ _).alloc (Nat.le_refl _) _)
  have HE : Hid (Sd w w16.heap.size w17) := ⟨⟨Bd, Bp, b14, b15, Pd, Pp, by rw [← hw17]; exact heap_alloc_new w16 _, H15.out.2.1.later k17, H15.out.1.later k17, H15.out.2.2.1, H15.out.2.2.2.1, H15.out.2.2.2.2.1⟩, below_step H15.out.2.2.2.2.2 k17⟩
  clear HR k16 k17 hw17 H15
  go_wp2_with fail
  rw [HW17.out]
  go_ret
  exact ⟨_, rfl, HE.out⟩
end Go.Proofs.Ytobbcgendjakiaa
