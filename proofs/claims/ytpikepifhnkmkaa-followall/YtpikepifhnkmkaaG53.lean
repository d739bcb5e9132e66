/- heronlaw17: FollowAll (typed by gen/foall.py). -/
import Derived.Test.YtpikepifhnkmkaaG52
import Derived.BigRegion
import Derived.BigQuiet
namespace Go.Proofs.Ytpikepifhnkmkaa
open Go.RowKit Go.Maps Sf Ln Fo
attribute [local go_sem ↓] Go.wp_at_zero Go.wp_at_succ

/-- pieces of text that came in -/
structure Pcs (w : World) (a : Option Addr) (ps : List (List ByteArray)) : Prop where
  cells : ps = [] ∨ ∃ b off, a = some ⟨b, off, none⟩ ∧ ∀ i r, ps[i]? = some r → ∃ V, w.cell? ⟨b, off + i, none⟩ = some V ∧ LAt w V (r.map Value.string)
  good : ∀ r ∈ ps, ∀ s ∈ r, s.size ≤ maxLen
  len : ps.length ≤ 17592186043904
def RenI (w : World) (ln ck A Bd i lgN tlN tn F B : Nat) (V U : Value) (u : World) : Prop := ∃ d f Pd K C G, AllS w w.heap.size A Bd Pd F B K C d f V U G G u ∧ PreC i ln ck lgN tlN d f ∧ K ≤ 8 * i + 1 ∧ C ≤ 5000 * i ∧ G.length ≤ 400 * i ∧ tn = G.length ∧ lgN ≤ 400 * i ∧ tlN ≤ i
def CreI (w : World) (ln ck A Bd i lgN tlN tn F B : Nat) (V U : Value) (e : Ending) (v : World) : Prop := e = .returned (.int .i64 0) ∧ MidI w ln ck A Bd i lgN tlN tn F B 0 V U v
theorem ren_next {w u : World} {ln ck A Bd i lgN tlN tn F B : Nat} {V U : Value} (h : RenI w ln ck A Bd i lgN tlN tn F B V U u) (hi : i < 4) : Calls Try.prog 10 #[.pointer (some ⟨Bd, 0, none⟩), .string sa] u (CreI w ln ck A Bd i lgN tlN tn F B V U) := by
  obtain ⟨d, f, Pd, K, C, G, h1, h2, h3, h4, h5, h6, h7, h8⟩ := h
  refine (create_any h1.s.dk sa (by decide)).mono fun e v x => ?_
  rcases x with ⟨y, _⟩ | ⟨_, y, z⟩
  · exact absurd h2.1 y
  · have hw := h1.s.dk.wf.create (s := sa) may_a (err_141 h2.1).2
    exact ⟨y, _, f, _, K + 1, C, G, h1.does z hw (by omega), h2.2, fun e => by omega, by omega, by omega, h5, h6, h7, h8⟩
theorem out_zero {w u : World} {N ln ck A Bd lgN tlN tn F B : Nat} {V U : Value} (h : OutI w N ln ck A Bd 0 lgN tlN tn F B V U u) : RenI w ln ck A Bd 0 lgN tlN tn F B V U u := by
  obtain ⟨d, f, Pd, K, C, G, h1, h2, h3, h4, h5, h6⟩ := h
  exact ⟨d, f, Pd, K, C, G, h1, pre_zero h2, by omega, h4, h5, h6, h2.le.1, h2.le.2.1⟩
def RenE (w : World) (ln ck A Bd i lgN tlN tn F B : Nat) (V U : Value) (e : Ending) (v : World) : Prop := e = .returned (.int .i64 0) ∧ RenI w ln ck A Bd i lgN tlN tn F B V U v
theorem out_more {w u : World} {N ln ck A Bd j lgN tlN tn F B : Nat} {V U : Value} (h : OutI w N ln ck A Bd (j + 1) lgN tlN tn F B V U u) (hlt : j + 1 < N ∧ j + 1 < 4) : Calls Try.prog 9 #[.pointer (some ⟨Bd, 0, none⟩), .string sa, .string sr] u (RenE w ln ck A Bd (j + 1) lgN tlN tn F B V U) := by
  obtain ⟨d, f, Pd, K, C, G, h1, h2, h3, h4, h5, h6⟩ := h
  obtain ⟨e0, e1⟩ := pre_more h2 h1.s.dk.wf hlt
  have hsa : err d sa = 0 := (renE_zero e0).1
  refine (rename_any h1.s.dk sa sr (by decide) (by decide)).mono fun e v x => ?_
  obtain ⟨y, z⟩ := x
  rw [e0] at y
  rcases z with ⟨_, _, z⟩ | ⟨z, _⟩
  · have hw := h1.s.dk.wf.rename may_r (err_zero hsa).2 sar
    exact ⟨y, _, f, _, K + 1, C, G, h1.does z hw (by omega), e1, by omega, h4, h5, h6, h2.le.1, h2.le.2.1⟩
  · rcases z with z | z
    · exact absurd e0 z
    · exact absurd z sar
theorem mid_step {w u : World} {ln ck A Bd i lgN tlN tn F B m : Nat} {V U : Value} (h : MidI w ln ck A Bd i lgN tlN tn F B m V U u) (hi : i < 4) (hm : m < 3) (hck : 1 ≤ ck) : Calls Try.prog 11 #[.pointer (some ⟨F, 0, none⟩), .pointer (some ⟨Bd, 0, none⟩)] u fun e v => e = .returned (.tuple #[.agg #[.int .i64 0, .int .i64 0, .int .i64 0, .int .i64 0, .int .i64 0, .int .i64 0, .int .i64 0, .int .i64 0, .int .i64 0, .string ⟨#[]⟩], .bool false]) ∧ MidI w ln ck A Bd i lgN tlN tn F B (m + 1) V U v := by
  obtain ⟨d, f, Pd, K, C, G, h1, h2, h2', h3, h4, h5, h6, h7, h8⟩ := h
  refine (h1.step (by omega)).mono fun e v x => ?_
  rw [h2.no] at x
  exact ⟨x.1, d, _, Pd, K, C + 1, G, x.2, h2.again hck (by omega), fun _ => ⟨h2.fo, h2.tl, h2.lg⟩, h3, by omega, h5, h6, h7, h8⟩
theorem MidI.later {w u v : World} {ln ck A Bd i lgN tlN tn F B m : Nat} {V U : Value} (h : MidI w ln ck A Bd i lgN tlN tn F B m V U u) (hb : Below u.heap.size u v) : MidI w ln ck A Bd i lgN tlN tn F B m V U v := by
  obtain ⟨d, f, Pd, K, C, G, h1, h2⟩ := h
  exact ⟨d, f, Pd, K, C, G, h1.later hb, h2⟩
theorem whs_len : ∀ (l u : List UInt8), (whs u l).1.length ≤ l.length
  | [], u => Nat.le_refl _
  | c :: r, u => by
    unfold whs
    split
    · have := whs_len r []
      simp only [List.length_cons]
      omega
    · have := whs_len r (u ++ [c])
      simp only [List.length_cons]
      omega
theorem whs_line : ∀ (l u x : List UInt8), x ∈ (whs u l).1 → x.length ≤ u.length + l.length
  | [], u, x, h => by cases h
  | c :: r, u, x, h => by
    unfold whs at h
    split at h
    · rcases List.mem_cons.1 h with rfl | h
      · simp only [List.length_cons]; omega
      · have := whs_line r [] x h
        simp only [List.length_cons, List.length_nil] at this ⊢
        omega
    · have := whs_line r (u ++ [c]) x h
      simp only [List.length_append, List.length_cons, List.length_nil] at this ⊢
      omega
theorem sv_at {W : List (List UInt8)} {q : Nat} {x : List UInt8} (h : W[q]? = some x) : (sv W)[q]? = some (.string ⟨x.toArray⟩) := by unfold sv; rw [List.getElem?_map, h]; rfl
set_option maxRecDepth 8000 in
set_option maxHeartbeats 16000000 in
theorem all_any {w : World} {z0 z1 ag : Int} (h0 : goodI z0) (h1 : goodI z1) (h2 : goodI ag) {a : Option Addr} {c : Nat} {ps : List (List ByteArray)} (hp : Pcs w a ps) : Calls Try.prog 3 #[.agg #[.int .i64 z0, .int .i64 z1], .slice a ps.length c, .int .i64 ag] w fun e w' => e = .returned (.bool true) ∧ Below w.heap.size w w' := by
  have HP : Hid (Pcs w a ps ∧ goodI ag) := ⟨hp, h2⟩
  obtain ⟨N, hN⟩ : ∃ N, ps.length = N := ⟨_, rfl⟩
  have HN : Hid (ps.length = N) := hN
  have hN2 : N ≤ 17592186043904 := by rw [← hN]; exact hp.len
  rw [hN]
  have hp2 : ∀ (p : Option Addr) (u : World), (binOp .eql 30 (.pointer p) (.pointer none)).run Try.prog u = .ok (.bool p.isNone) u := fun p u => run_eql_pointer_nil u _ p (by kernel_rfl)
  obtain ⟨w1, hw1⟩ : ∃ w1, w.alloc (.cells #[.int .i64 z0, .int .i64 z1] 22) = w1 := ⟨_, rfl⟩
  obtain ⟨A1, hA1⟩ : ∃ A, w.heap.size = A := ⟨_, rfl⟩
  have k1 : Below w.heap.size w w1 := by rw [← hw1]; exact (Below.refl _ _).alloc (Nat.le_refl _) _
  have hb1 : w1.heap[A1]? = some (.cells #[.int .i64 z0, .int .i64 z1] 22 (0, 0)) := by rw [← hw1, ← hA1]; exact heap_alloc_new w _
  have HW1 : Hid (w.alloc (.cells #[.int .i64 z0, .int .i64 z1] 22) = w1 ∧ w.heap.size = A1) := ⟨hw1, hA1⟩
  have HK1 : Hid (Below w.heap.size w w1 ∧ w1.heap[A1]? = some (.cells #[.int .i64 z0, .int .i64 z1] 22 (0, 0))) := ⟨k1, hb1⟩
  have HFX : Hid (Calls Try.prog 5 #[] w1 _) := fixed_any w1
  have HM1 : Hid (∀ u, Calls Try.prog 6 #[.int .i64 z0, .int .i64 20] u fun e w' => ∃ m : Nat, e = .returned (.int .i64 (m : Nat)) ∧ m < 20 ∧ w' = u) := fun u => mod_fn (n := 20) u h0 (by decide) (by decide)
  have HM2 : Hid (∀ u, Calls Try.prog 6 #[.int .i64 z1, .int .i64 20] u fun e w' => ∃ m : Nat, e = .returned (.int .i64 (m : Nat)) ∧ m < 20 ∧ w' = u) := fun u => mod_fn (n := 20) u h1 (by decide) (by decide)
  clear hp h0 h1 h2 hN hw1 hA1 k1 hb1
  go_enter Try.func3, Try.ntmps3
  go_upto_region 1 with fail
  rw [HW1.out.1, HW1.out.2]
  clear HW1
  go_wp2_with fail
  refine HFX.out.mono ?_
  rintro e w2 ⟨rfl, k2⟩
  have b2 := (k2.block A1 (Array.getElem?_eq_some_iff.1 HK1.out.2).1).trans HK1.out.2
  have c0 : w2.cell? ⟨A1, 0, none⟩ = some (.int .i64 z0) := by simp [World.cell?, b2]
  have c1 : w2.cell? ⟨A1, 1, none⟩ = some (.int .i64 z1) := by simp [World.cell?, b2]
  have HK2 : Hid (Below w.heap.size w w2) := below_step HK1.out.1 k2
  clear b2 k2 HFX HK1
  go_wp2_with fail
  refine (HM1.out w2).mono ?_
  rintro e wx ⟨l0, rfl, hl0, hwx⟩
  rw [hwx]
  clear hwx HM1
  go_wp2_with fail
  refine (HM2.out w2).mono ?_
  rintro e wx ⟨m0, rfl, hm0, hwx⟩
  rw [hwx]
  clear hwx HM2 c0 c1
  have HNW : Hid (Calls Try.prog 7 #[] w2 _) := new_any w2
  go_wp2_with fail
  refine HNW.out.mono ?_
  rintro e w3 ⟨Bd, P, rfl, hd3, hlow, k3⟩
  obtain ⟨w4, hw4⟩ : ∃ x, w3.alloc (.cells #[.string ⟨#[97]⟩, .string ⟨#[97, 46, 49]⟩] 29) = x := ⟨_, rfl⟩
  obtain ⟨A, hA⟩ : ∃ A, w3.heap.size = A := ⟨_, rfl⟩
  have k4 : Below w3.heap.size w3 w4 := by rw [← hw4]; exact (Below.refl _ _).alloc (Nat.le_refl _) _
  have HW4 : Hid (w3.alloc (.cells #[.string ⟨#[97]⟩, .string ⟨#[97, 46, 49]⟩] 29) = w4 ∧ w3.heap.size = A) := ⟨hw4, hA⟩
  have p4 : PtBx w4 A := by rw [← hw4, ← hA]; exact heap_alloc_new w3 _
  have q0 : w4.cell? ⟨A, 0, none⟩ = some (.string ⟨#[97]⟩) := by simp [World.cell?, show w4.heap[A]? = _ from p4, sa]
  have q1 : w4.cell? ⟨A, 1, none⟩ = some (.string ⟨#[97, 46, 49]⟩) := by simp [World.cell?, show w4.heap[A]? = _ from p4, sr]
  have HD4 : Hid (Dsk P w4 Bd Sf.new 0 ∧ Below w.heap.size w w4 ∧ (∀ k, P k → w.heap.size ≤ k) ∧ PtBx w4 A ∧ ¬ P A) := ⟨hd3.later k4, below_step (below_step HK2.out k3) k4, fun k hk => Nat.le_trans HK2.out.size (hlow k hk), p4, fun e => by have := hd3.m.low A e; omega⟩
  have HC : Hid (Calls Try.prog 8 #[.agg #[.string ⟨#[97]⟩, .string ⟨#[97, 46, 49]⟩], .int .i64 (1 + (l0 : Int)), .int .i64 (1 + (m0 : Int)), .agg #[.int .i64 0, .int .i64 0, .int .i64 0, .int .i64 0, .int .i64 0, .int .i64 0, .int .i64 0, .int .i64 0, .int .i64 0], .pointer (some ⟨Bd, 0, none⟩)] w4 _) := new_ok HD4.out.1 sa sr (by decide) (by decide) (1 + l0) (1 + m0) zeroM ⟨err_may may_a, .inl (err_may may_r)⟩ ⟨by omega, by omega⟩ ⟨by omega, by omega⟩ may_zero
  clear hd3 hlow k3 hw4 hA k4 p4 HNW HK2
  go_upto_region 7 with fail
  rw [HW4.out.1, HW4.out.2]
  clear HW4
  go_wp2_with fail
  refine HC.out.mono ?_
  rintro e w5 ⟨F, B, rfl, hn5⟩
  rw [fx_made] at hn5
  have H0 : Hid (OutI w N (1 + l0) (1 + m0) A Bd 0 0 0 0 F B (.slice none 0 0) (.slice none 0 0) w5) := by
    have hs := FoS.made HD4.out.1 HD4.out.2.1 HD4.out.2.2.1 hn5 (new_in sa (1 + l0) (1 + m0) (by omega) ⟨by omega, by omega⟩ (by decide))
    obtain ⟨_, _, _, _, _, k5⟩ := hn5
    refine ⟨Sf.new, newF sa (1 + l0) (1 + m0) zeroM, P, 0, 0, [], ⟨hs, ⟨(k5.block A (Array.getElem?_eq_some_iff.1 HD4.out.2.2.2.1).1).trans HD4.out.2.2.2.1, HD4.out.2.2.2.2⟩, ⟨World.ownsRow_nil _ _ _ _, fun b hb => (by cases hb)⟩, ⟨World.ownsRow_nil _ _ _ _, fun b hb => (by cases hb)⟩, fun b hb => (by cases hb), Nat.le_refl _, hs.lo.size⟩, ⟨fun _ => ⟨rfl, rfl⟩, fun j e => by omega, rfl, ?_, ⟨by omega, by omega, Int.le_refl _⟩⟩, by omega, by omega, Nat.le_refl _, rfl⟩
    rw [if_neg (fun x => absurd x.1 (Nat.lt_irrefl 0))]
    rfl
  clear hn5 HC HD4 q0 q1
  go_wp2_with fail
  go_loopw [11, 12, 13, 14, 15, 16, 17, 18] (fun v11 v12 v13 v14 v15 v16 v17 v18 u => ∃ i lgN tlN tn F B : Nat, v11 = .pointer (some ⟨F, 0, none⟩) ∧ v12 = .int .i64 0 ∧ v15 = .int .i64 (lgN : Nat) ∧ v16 = .int .i64 (tlN : Nat) ∧ v17 = .int .i64 (tn : Nat) ∧ v18 = .int .i64 (i : Nat) ∧ i ≤ N ∧ i ≤ 4 ∧ Hid (OutI w N (1 + l0) (1 + m0) A Bd i lgN tlN tn F B v13 v14 u)) (fun _ _ _ _ _ _ _ i _ => 5 - (Go.RowKit.intOf i).toNat)
  case atStart => exact ⟨0, 0, 0, 0, F, B, rfl, rfl, rfl, rfl, rfl, rfl, Nat.zero_le _, by omega, H0⟩
  case round =>
  clear H0
  obtain ⟨i, lgN, tlN, tn, F, B, rfl, rfl, rfl, rfl, rfl, rfl, hiN, hi4, HI⟩ := hrel
  go_upto_region 16 with fail
  go_cut [66] from 59 to 66 (fun v wx => v = .bool (decide (i < N ∧ i < 4)) ∧ wx = wr)
  case first =>
    by_cases h1 : i < N
    · have l1 : (i : Int) < (N : Int) := by omega
      by_cases h2 : i < 4
      · have l2 : (i : Int) < 4 := by omega
        have HT : Hid (decide (i < N ∧ i < 4) = true) := decide_eq_true ⟨h1, h2⟩
        clear h1 h2
        go_wp2_with fail
        go_meet
        case rel => exact ⟨by rw [HT.out], rfl⟩
      · have l2 : ¬ (i : Int) < 4 := by omega
        have HT : Hid (decide (i < N ∧ i < 4) = false) := decide_eq_false (fun x => h2 x.2)
        clear h1 h2
        go_wp2_with fail
        go_meet
        case rel => exact ⟨by rw [HT.out], rfl⟩
    · have l1 : ¬ (i : Int) < (N : Int) := by omega
      have HT : Hid (decide (i < N ∧ i < 4) = false) := decide_eq_false (fun x => h1 x.1)
      clear h1
      go_wp2_with fail
      go_meet
      case rel => exact ⟨by rw [HT.out], rfl⟩
  case rest =>
  obtain ⟨rfl, hwc⟩ := hcut
  rw [hwc]
  clear hwc
  by_cases hnl : ¬ (i < N ∧ i < 4)
  · rw [decide_eq_false hnl]
    obtain ⟨q, X, hmk, z1, z2, z3, z4, z5, hV, hU, hX, hlo, htb⟩ := HI.out.fin hnl
    obtain ⟨q0, q1, q2, q3, q4, q5, q6, q7, q8⟩ := q
    simp only at z1 z2 z3 z4 z5
    subst z1 z2 z3 z4 z5
    have HMK : Hid (Calls Try.prog 13 #[.pointer (some ⟨F, 0, none⟩)] wr _) := hmk
    unfold mrkBox at HMK
    obtain ⟨va, vc, e1, _⟩ := hV.open
    obtain ⟨ua, uc, e2, _⟩ := hU.open
    rw [sv_len, hX] at e1 e2
    subst e1 e2
    have HE : Hid (LAt wr (.slice va tn vc) (sv X) ∧ LAt wr (.slice ua tn uc) (sv X) ∧ X.length = tn ∧ Below w.heap.size w wr) := ⟨hV, hU, hX, hlo⟩
    clear hmk hV hU hX hlo hnl HI
    go_upto_region 58 with fail
    go_wp2_with fail
    refine HMK.out.mono ?_
    rintro e w5 ⟨rfl, k5⟩
    have hfld : (Instr.field 37 (.agg #[.int .i64 q0, .int .i64 q1, .int .i64 q2, .int .i64 q3, .int .i64 0, .int .i64 0, .int .i64 0, .int .i64 (tlN : Nat), .int .i64 (lgN : Nat)]) 4).run Try.prog w5 = .ok (.agg #[.int .i64 0, .int .i64 0, .int .i64 0, .int .i64 (tlN : Nat), .int .i64 (lgN : Nat)]) w5 := by kernel_rfl
    obtain ⟨w6, hw6⟩ : ∃ x, w5.alloc (.cells #[.int .i64 0, .int .i64 0, .int .i64 0, .int .i64 (tlN : Nat), .int .i64 (lgN : Nat)] 35) = x := ⟨_, rfl⟩
    obtain ⟨A3, hA3⟩ : ∃ A, w5.heap.size = A := ⟨_, rfl⟩
    have k6 : Below w5.heap.size w5 w6 := by rw [← hw6]; exact (Below.refl _ _).alloc (Nat.le_refl _) _
    have HW6 : Hid (w5.alloc (.cells #[.int .i64 0, .int .i64 0, .int .i64 0, .int .i64 (tlN : Nat), .int .i64 (lgN : Nat)] 35) = w6 ∧ w5.heap.size = A3) := ⟨hw6, hA3⟩
    have b6 : w6.heap[A3]? = some (.cells #[.int .i64 0, .int .i64 0, .int .i64 0, .int .i64 (tlN : Nat), .int .i64 (lgN : Nat)] 35 (0, 0)) := by rw [← hw6, ← hA3]; exact heap_alloc_new w5 _
    have c0 : w6.cell? ⟨A3, 0, none⟩ = some (.int .i64 0) := by simp [World.cell?, b6]
    have c1 : w6.cell? ⟨A3, 1, none⟩ = some (.int .i64 0) := by simp [World.cell?, b6]
    have c2 : w6.cell? ⟨A3, 2, none⟩ = some (.int .i64 0) := by simp [World.cell?, b6]
    have c3 : w6.cell? ⟨A3, 3, none⟩ = some (.int .i64 (tlN : Nat)) := by simp [World.cell?, b6]
    have c4 : w6.cell? ⟨A3, 4, none⟩ = some (.int .i64 (lgN : Nat)) := by simp [World.cell?, b6]
    have hb2 : Below wr.heap.size wr w6 := below_step k5 k6
    have H0 : Hid (LAt w6 (.slice va tn vc) (sv X) ∧ LAt w6 (.slice ua tn uc) (sv X) ∧ Below w.heap.size w w6) := ⟨HE.out.1.later hb2, HE.out.2.1.later hb2, below_step HE.out.2.2.2 hb2⟩
    have HNX : Hid (X.length = tn) := HE.out.2.2.1
    clear hw6 hA3 k6 b6 k5 hb2 HE HMK
    go_upto_region 59 with fail
    rw [HW6.out.1, HW6.out.2]
    clear HW6
    go_wp2_with fail
    clear c0 c1 c2 c3 c4
    go_loopw [31] (fun i u => ∃ k : Nat, k ≤ tn ∧ i = .int .i64 (k : Nat) ∧ Hid (LAt u (.slice va tn vc) (sv X) ∧ LAt u (.slice ua tn uc) (sv X) ∧ Below w.heap.size w u)) (fun i _ => tn - (Go.RowKit.intOf i).toNat)
    case atStart => exact ⟨0, Nat.zero_le _, rfl, H0⟩
    case round =>
    obtain ⟨k, hk, rfl, HI⟩ := hrel
    clear H0
    by_cases hlt : k < tn
    · obtain ⟨t, ht⟩ : ∃ t, X[k]? = some t := ⟨_, List.getElem?_eq_getElem (by rw [HNX.out]; exact hlt)⟩
      have hs := sv_at ht
      obtain ⟨_, _, e1, _, _, g1⟩ := HI.out.1.open
      obtain ⟨b1, o1, f1, q1⟩ := g1 k _ hs
      obtain ⟨_, _, e2, _, _, g2⟩ := HI.out.2.1.open
      obtain ⟨b2, o2, f2, q2⟩ := g2 k _ hs
      obtain ⟨rfl, -, -⟩ := Value.slice.inj e1
      obtain ⟨rfl, -, -⟩ := Value.slice.inj e2
      subst f1 f2
      obtain ⟨st, hst⟩ : ∃ st : ByteArray, ⟨t.toArray⟩ = st := ⟨_, rfl⟩
      rw [hst] at q1 q2
      clear hst hs ht g1 g2 e1 e2
      have HLT : Hid (k < tn) := hlt
      go_upto_region 64 with fail
      go_quiet (fail)
      have HI2 : Hid (LAt (wr.drewN nq) (.slice (some ⟨b1, o1, none⟩) tn vc) (sv X) ∧ LAt (wr.drewN nq) (.slice (some ⟨b2, o2, none⟩) tn uc) (sv X) ∧ Below w.heap.size w (wr.drewN nq)) := ⟨HI.out.1.keep (fun _ _ _ h => h), HI.out.2.1.keep (fun _ _ _ h => h), HI.out.2.2.trans ⟨rfl, rfl, rfl, Nat.le_refl _, fun _ _ => rfl⟩⟩
      go_wp2
      go_roundw
      case rel => exact ⟨k + 1, HLT.out, by go_num, HI2⟩
      case measure => have := HLT.out; simp [Go.RowKit.intOf]; omega
    · obtain rfl : k = tn := by omega
      have HL : Hid (Below w.heap.size w wr) := HI.out.2.2
      clear hlt HI
      go_wp2
      go_ret
      exact ⟨rfl, HL.out⟩
  have hlt := Decidable.not_not.1 hnl
  rw [decide_eq_true hlt]
  clear hnl
  obtain ⟨hlN, hl4⟩ := hlt
  go_upto_if 70 with fail
  go_cut [71] from 59 to 72 (fun _ wx => Hid (RenI w (1 + l0) (1 + m0) A Bd i lgN tlN tn F B u13 u14 wx))
  case first =>
    by_cases hi0 : i = 0
    · have hn : ¬ (0 : Int) < (i : Int) := by omega
      have HR : Hid (RenI w (1 + l0) (1 + m0) A Bd i lgN tlN tn F B u13 u14 wr) := by
        have := HI.out
        subst hi0
        exact out_zero this
      clear hi0
      go_wp2_with fail
      go_meet
      case rel => exact HR
    · have hn : (0 : Int) < (i : Int) := by omega
      have HC : Hid (Calls Try.prog 9 #[.pointer (some ⟨Bd, 0, none⟩), .string ⟨#[97]⟩, .string ⟨#[97, 46, 49]⟩] wr (RenE w (1 + l0) (1 + m0) A Bd i lgN tlN tn F B u13 u14)) := by
        obtain ⟨j, rfl⟩ : ∃ j, i = j + 1 := ⟨i - 1, by omega⟩
        exact out_more HI.out ⟨hlN, hl4⟩
      clear hi0
      go_wp2_with fail
      refine HC.out.mono ?_
      rintro e w6 ⟨rfl, h6⟩
      have HR : Hid (RenI w (1 + l0) (1 + m0) A Bd i lgN tlN tn F B u13 u14 w6) := h6
      clear h6 HC
      go_wp2_with fail
      go_meet
      case rel => exact HR
  case rest =>
  have HC : Hid (Calls Try.prog 10 #[.pointer (some ⟨Bd, 0, none⟩), .string ⟨#[97]⟩] wc (CreI w (1 + l0) (1 + m0) A Bd i lgN tlN tn F B u13 u14)) := ren_next hcut.out hl4
  clear hcut HI
  go_wp2_with fail
  refine HC.out.mono ?_
  rintro e w7 ⟨rfl, h7⟩
  have HM0 : Hid (MidI w (1 + l0) (1 + m0) A Bd i lgN tlN tn F B 0 u13 u14 w7) := h7
  clear h7 HC
  go_wp2_with fail
  go_loopw [20] (fun q u => ∃ m : Nat, q = .int .i64 (m : Nat) ∧ m ≤ 3 ∧ Hid (MidI w (1 + l0) (1 + m0) A Bd i lgN tlN tn F B m u13 u14 u)) (fun q _ => 3 - (Go.RowKit.intOf q).toNat)
  case atStart => exact ⟨0, rfl, by omega, HM0⟩
  case round =>
  clear HM0
  obtain ⟨m, rfl, hm3, HM⟩ := hrel
  by_cases hm : m < 3
  · have l3 : (m : Int) < 3 := by omega
    have HC : Hid (Calls Try.prog 11 #[.pointer (some ⟨F, 0, none⟩), .pointer (some ⟨Bd, 0, none⟩)] wr _) := mid_step HM.out hl4 hm (by omega)
    clear hm
    go_wp2_with fail
    refine HC.out.mono ?_
    rintro e w8 ⟨rfl, h8⟩
    have HM2 : Hid (MidI w (1 + l0) (1 + m0) A Bd i lgN tlN tn F B (m + 1) u13 u14 (w8.alloc (.cells #[.int .i64 0, .int .i64 0, .int .i64 0, .int .i64 0, .int .i64 0, .int .i64 0, .int .i64 0, .int .i64 0, .int .i64 0, .string ⟨#[]⟩] 42))) := h8.later ((Below.refl _ _).alloc (Nat.le_refl _) _)
    clear h8 HC HM
    go_wp2_with fail
    go_roundw
    case rel => exact ⟨m + 1, by go_num, by omega, HM2⟩
    case measure => simp [Go.RowKit.intOf]; omega
  obtain rfl : m = 3 := by omega
  clear hm
  obtain ⟨r, hr⟩ : ∃ r, ps[i]? = some r := ⟨_, List.getElem?_eq_getElem (by rw [HN.out]; exact hlN)⟩
  obtain ⟨b1, off1, rfl, V1, hc1, hl1⟩ : ∃ b off, a = some ⟨b, off, none⟩ ∧ ∃ V, w.cell? ⟨b, off + i, none⟩ = some V ∧ LAt w V (r.map Value.string) := by
    rcases HP.out.1.cells with x | ⟨b, off, e, x⟩
    · rw [x] at hr; cases hr
    · exact ⟨b, off, e, x i r hr⟩
  obtain ⟨ra, rc, rfl, hrc, hrc2, hrow⟩ := hl1.open
  obtain ⟨nr, hnr⟩ : ∃ n, (r.map Value.string).length = n := ⟨_, rfl⟩
  have hnr2 : r.length = nr := by rw [← hnr, List.length_map]
  rw [hnr] at hc1 hrc
  have HR : Hid (w.cell? ⟨b1, off1 + i, none⟩ = some (.slice ra nr rc) ∧ (∀ k t, r[k]? = some t → ∃ b off, ra = some ⟨b, off, none⟩ ∧ w.cell? ⟨b, off + k, none⟩ = some (.string t)) ∧ (∀ t ∈ r, t.size ≤ maxLen) ∧ r.length = nr) := ⟨hc1, fun k t ht => hrow k _ (by rw [List.getElem?_map, ht]; rfl), fun t ht => HP.out.1.good r (List.mem_of_getElem? hr) t ht, hnr2⟩
  have hnr3 : nr ≤ 9223372036854775807 := by omega
  have HK0 : Hid (KI w i (1 + l0) (1 + m0) A Bd lgN tlN tn F B 0 (5000 * i + 3 + 800 * 0) (⟨#[]⟩ : ByteArray).size false ⟨#[]⟩ u13 u14 wr) := KI.start HM.out
  have l3 : ¬ (3 : Int) < 3 := by omega
  clear hr hc1 hl1 hrow hnr hnr2 hrc hrc2 HM
  go_wp2_with fail
  clear l3
  go_loopw [11, 12, 13, 17, 19, 23] (fun v11 v12 v13 v17 v19 v23 u => ∃ (k tn' F' B' : Nat) (s : ByteArray), v11 = .pointer (some ⟨F', 0, none⟩) ∧ v12 = .int .i64 0 ∧ v17 = .int .i64 (tn' : Nat) ∧ v19 = .string s ∧ v23 = .int .i64 (k : Nat) ∧ k ≤ 6 ∧ Hid (KI w i (1 + l0) (1 + m0) A Bd lgN tlN tn' F' B' k (5000 * i + 3 + 800 * k) s.size false s v13 u14 u)) (fun _ _ _ _ _ q _ => 6 - (Go.RowKit.intOf q).toNat)
  case atStart => exact ⟨0, tn, F, B, ⟨#[]⟩, rfl, rfl, rfl, rfl, rfl, by omega, HK0⟩
  case round =>
  obtain ⟨k, tn', F', B', s, rfl, rfl, rfl, rfl, rfl, hk6, HI⟩ := hrel
  clear HK0
  have hc1 : wr.cell? ⟨b1, off1 + i, none⟩ = some (.slice ra nr rc) := cell_later HI.out.low _ _ _ HR.out.1
  go_upto_region 30 with fail
  go_cut [97] from 87 to 97 (fun v wx => v = .bool (decide (k < nr ∧ k < 6)) ∧ wx = wr)
  case first =>
    by_cases h1 : k < nr
    · have l1 : (k : Int) < (nr : Int) := by omega
      by_cases h2 : k < 6
      · have l2 : (k : Int) < 6 := by omega
        have HT : Hid (decide (k < nr ∧ k < 6) = true) := decide_eq_true ⟨h1, h2⟩
        clear h1 h2
        go_wp2_with fail
        go_meet
        case rel => exact ⟨by rw [HT.out], rfl⟩
      · have l2 : ¬ (k : Int) < 6 := by omega
        have HT : Hid (decide (k < nr ∧ k < 6) = false) := decide_eq_false (fun x => h2 x.2)
        clear h1 h2
        go_wp2_with fail
        go_meet
        case rel => exact ⟨by rw [HT.out], rfl⟩
    · have l1 : ¬ (k : Int) < (nr : Int) := by omega
      have HT : Hid (decide (k < nr ∧ k < 6) = false) := decide_eq_false (fun x => h1 x.1)
      clear h1
      go_wp2_with fail
      go_meet
      case rel => exact ⟨by rw [HT.out], rfl⟩
  case rest =>
  obtain ⟨rfl, hwc⟩ := hcut
  rw [hwc]
  clear hwc
  by_cases hnl : ¬ (k < nr ∧ k < 6)
  · rw [decide_eq_false hnl]
    clear hnl hc1
    obtain ⟨hs360, htn⟩ := HI.out.ns hl4 hk6
    have HS3 : Hid (s.size ≤ 360) := hs360
    have HWH : Hid (Calls Try.prog 14 #[.string s] wr _) := whole_fn s wr (by omega)
    obtain ⟨nW, hnW⟩ : ∃ n, (whs [] s.data.toList).1.length = n := ⟨_, rfl⟩
    have HNW : Hid ((whs [] s.data.toList).1.length = nW) := hnW
    have hW : nW ≤ 360 := by have := whs_len s.data.toList []; rw [sz_list] at this; omega
    go_wp2_with fail
    refine HWH.out.mono ?_
    rintro e w9 ⟨Y, rfl, hrow, hb⟩
    have hK := KH.start HI.out hk6 hb hrow
    rw [hnW] at hrow
    obtain ⟨ya, yc, rfl⟩ := own_form hrow
    have HK0 : Hid (KH w i (1 + l0) (1 + m0) A Bd lgN tlN lgN tn' F' B' (5000 * i + 3 + 800 * k) s 0 (.slice ya nW yc) u13 u14 w9) := hK
    have hlg : lgN ≤ 400 * i ∧ tlN ≤ i := by
      obtain ⟨_, _, _, _, _, _, _, _, _, _, h⟩ := HI.out
      exact h.lb
    obtain ⟨hlg1, hlg2⟩ := hlg
    clear hrow hb hK hnW HWH HI
    go_wp2_with fail
    go_loopw [14, 15, 29] (fun v14 v15 v29 u => ∃ q lgq : Nat, v15 = .int .i64 (lgq : Nat) ∧ v29 = .int .i64 (q : Nat) ∧ q ≤ nW ∧ lgq ≤ 400 * i + q ∧ Hid (KH w i (1 + l0) (1 + m0) A Bd lgN tlN lgq tn' F' B' (5000 * i + 3 + 800 * k) s q (.slice ya nW yc) u13 v14 u)) (fun _ _ q _ => nW - (Go.RowKit.intOf q).toNat)
    case atStart => exact ⟨0, lgN, rfl, rfl, Nat.zero_le _, by omega, HK0⟩
    case round =>
    obtain ⟨q, lgq, rfl, rfl, hq, hlgq, HK⟩ := hrel
    clear HK0
    by_cases hlt : q < nW
    · obtain ⟨x, hx⟩ : ∃ x, (whs [] s.data.toList).1[q]? = some x := ⟨_, List.getElem?_eq_getElem (by rw [HNW.out]; exact hlt)⟩
      obtain ⟨_, _, e1, _, _, g1⟩ := HK.out.row.open
      obtain ⟨b3, o3, f3, q3⟩ := g1 q _ (sv_at hx)
      obtain ⟨rfl, -, -⟩ := Value.slice.inj e1
      subst f3
      obtain ⟨tx, htx⟩ : ∃ tx : ByteArray, ⟨x.toArray⟩ = tx := ⟨_, rfl⟩
      rw [htx] at q3
      have htn2 : tx.size = x.length := by rw [← htx]; show x.toArray.size = _; simp
      have HX : Hid ((whs [] s.data.toList).1[q]? = some x ∧ (⟨x.toArray⟩ : ByteArray) = tx) := ⟨hx, htx⟩
      have hxm : tx.size ≤ 9223372036854775807 := by
        have := whs_line s.data.toList [] x (List.mem_of_getElem? hx)
        rw [sz_list] at this
        simp only [List.length_nil] at this
        omega
      clear g1 e1 hx htx
      have HLT : Hid (q < nW) := hlt
      by_cases hlen : x.length ≤ 1 + l0
      · have hc : ¬ 1 + (l0 : Int) < (tx.size : Nat) := by omega
        obtain ⟨w10, hw10⟩ : ∃ y, wr.alloc (.cells #[.string tx] 9) = y := ⟨_, rfl⟩
        have k10 : Below wr.heap.size wr w10 := by rw [← hw10]; exact (Below.refl _ _).alloc (Nat.le_refl _) _
        have HW10 : Hid (wr.alloc (.cells #[.string tx] 9) = w10) := hw10
        obtain ⟨X, n, hn, ho, hb0, hput⟩ := (HK.out.later k10).own hl4 HX.out.1 hlen (by rw [HNW.out]; exact hW)
        rw [HX.out.2] at hput
        obtain ⟨va, vc, rfl⟩ := own_form ho
        have HA : Hid (w10.ownsRow w.heap.size 9 1 (.slice va n vc) n (sv X) ∧ w.heap.size ≤ w10.heap.size) := ⟨ho, hb0⟩
        have HPU : Hid (∀ v U', w10.grownBy v (Value.slice va n vc).ownBlock → v.ownsRow w.heap.size 9 1 U' (n + 1) (sv X ++ [.string tx]) → Here w10 (.slice va n vc) U' → KH w i (1 + l0) (1 + m0) A Bd lgN tlN lgq tn' F' B' (5000 * i + 3 + 800 * k) s (q + 1) (.slice (some ⟨b3, o3, none⟩) nW yc) u13 U' v) := hput
        have HAL : Hid (LAt w10 (.slice (some ⟨wr.heap.size, 0, none⟩) 1 1) [.string tx]) := by rw [← hw10]; exact lat_lit wr _ _ _
        clear ho hb0 hput hlen k10 hw10 HK hlt htn2
        go_wp2_with (rw [HW10.out]; refine wpList_append_lat rfl (.tmp 181) (.tmp 186) rfl (.string ⟨#[]⟩) 16 (by kernel_rfl) infS rfl w.heap.size _ n (sv X) rfl HA.out.1 _ [.string tx] rfl HAL.out (fun u hu => by simp at hu; subst hu; rfl) (by simp only [List.length_singleton]; unfold maxLen; omega) (by simp only [List.length_singleton]; omega) HA.out.2 ?_; intro V' w3 ho3 hg3 hn3 hh3; have HK2 : Hid (KH w i (1 + l0) (1 + m0) A Bd lgN tlN lgq tn' F' B' (5000 * i + 3 + 800 * k) s (q + 1) (.slice (some ⟨b3, o3, none⟩) nW yc) u13 V' w3) := HPU.out _ _ hg3 ho3 hh3; clear ho3 hg3 hn3 hh3)
        clear HW10 HA HPU HAL q3
        go_wp2_with fail
        go_roundw
        case rel => exact ⟨q + 1, lgq, rfl, by go_num, HLT.out, by omega, HK2⟩
        case measure => have := HLT.out; simp [Go.RowKit.intOf]; omega
      · have hc : 1 + (l0 : Int) < (tx.size : Nat) := by omega
        have HK2 : Hid (KH w i (1 + l0) (1 + m0) A Bd lgN tlN (lgq + 1) tn' F' B' (5000 * i + 3 + 800 * k) s (q + 1) (.slice (some ⟨b3, o3, none⟩) nW yc) u13 u14 wr) := HK.out.long HX.out.1 hlen
        clear hlen HK hlt htn2
        go_wp2_with fail
        go_roundw
        case rel => exact ⟨q + 1, lgq + 1, by go_num, by go_num, HLT.out, by omega, HK2⟩
        case measure => have := HLT.out; simp [Go.RowKit.intOf]; omega
    · obtain rfl : q = nW := by omega
      have hK := HK.out
      rw [← HNW.out] at hK
      have HO : Hid (OutI w N (1 + l0) (1 + m0) A Bd (i + 1) lgq (tlN + if tailB N i s then 1 else 0) tn' F' B' u13 u14 wr) := hK.done (by omega)
      have HS4 : Hid (tailB N i s = decide (i + 1 < N ∧ i < 3 ∧ s.data.toList ≠ [] ∧ s.data.toList.getLast? ≠ some 10)) := rfl
      have ls : ¬ (q : Int) < (q : Int) := by omega
      clear hK HK hlt
      go_upto_region 56 with fail
      clear ls
      go_cut [209] from 188 to 209 (fun v wx => v = .bool (tailB N i s) ∧ wx = wr)
      case first =>
        by_cases g1 : i + 1 < N
        · have l1 : (i : Int) + 1 < (N : Int) := by omega
          by_cases g2 : i < 3
          · have l2 : (i : Int) < 3 := by omega
            by_cases g3 : s.size = 0
            · have l3 : ¬ (0 : Int) < (s.size : Nat) := by omega
              have HT : Hid (tailB N i s = false) := by
                rw [HS4.out]
                exact decide_eq_false (fun x => x.2.2.1 (List.eq_nil_of_length_eq_zero (by rw [sz_list]; exact g3)))
              clear g1 g2 g3
              go_wp2_with fail
              go_meet
              case rel => exact ⟨by rw [HT.out], rfl⟩
            · obtain ⟨p, hp⟩ : ∃ p, s.size = p + 1 := ⟨s.size - 1, by omega⟩
              have hps : p < s.size := by omega
              have l3 : (0 : Int) < (s.size : Nat) := by omega
              have hlast : s.data.toList.getLast? = some s[p] := by
                rw [List.getLast?_eq_getElem?, sz_list, hp, Nat.add_sub_cancel]
                have h2 : s.data[p]? = some s.data[p] := Array.getElem?_eq_getElem hps
                rw [← Array.getElem?_toList] at h2
                exact h2
              by_cases g4 : s[p] = 10
              · have HT : Hid (tailB N i s = false) := by
                  rw [HS4.out]
                  exact decide_eq_false (fun x => x.2.2.2 (by rw [hlast, g4]))
                have l4 : ((s[p].toNat : Nat) : Int) = 10 := by rw [g4]; rfl
                have hp1 : ((s.size : Nat) : Int) - 1 = (p : Nat) := by omega
                clear g1 g2 g3 g4 hlast
                go_wp2_with fail
                go_meet
                case rel => exact ⟨by rw [HT.out], rfl⟩
              · have HT : Hid (tailB N i s = true) := by
                  rw [HS4.out]
                  exact decide_eq_true ⟨g1, g2, fun e => by have := congrArg List.length e; rw [sz_list] at this; exact g3 this, fun e => by rw [hlast] at e; exact g4 (Option.some.inj e)⟩
                have l4 : ¬ ((s[p].toNat : Nat) : Int) = 10 := u8_ten g4
                have hp1 : ((s.size : Nat) : Int) - 1 = (p : Nat) := by omega
                clear g1 g2 g3 g4 hlast
                go_wp2_with fail
                go_meet
                case rel => exact ⟨by rw [HT.out]; simpa using l4, rfl⟩
          · have l2 : ¬ (i : Int) < 3 := by omega
            have HT : Hid (tailB N i s = false) := by
              rw [HS4.out]
              exact decide_eq_false (fun x => g2 x.2.1)
            clear g1 g2
            go_wp2_with fail
            go_meet
            case rel => exact ⟨by rw [HT.out], rfl⟩
        · have l1 : ¬ (i : Int) + 1 < (N : Int) := by omega
          have HT : Hid (tailB N i s = false) := by
            rw [HS4.out]
            exact decide_eq_false (fun x => g1 x.1)
          clear g1
          go_wp2_with fail
          go_meet
          case rel => exact ⟨by rw [HT.out], rfl⟩
      case rest =>
      obtain ⟨rfl, hwc⟩ := hcut
      rw [hwc]
      clear hwc
      obtain ⟨tb, htb⟩ : ∃ tb, tailB N i s = tb := ⟨_, rfl⟩
      rw [htb] at HO ⊢
      clear htb HS4
      cases tb with
      | true =>
        have HO2 : Hid (OutI w N (1 + l0) (1 + m0) A Bd (i + 1) lgq (tlN + 1) tn' F' B' u13 u14 wr) := HO.out
        clear HO
        go_wp2_with fail
        go_roundw
        case rel => exact ⟨i + 1, lgq, tlN + 1, tn', F', B', rfl, rfl, rfl, by go_num, rfl, by go_num, by omega, by omega, HO2⟩
        case measure => simp [Go.RowKit.intOf]; omega
      | false =>
        have HO2 : Hid (OutI w N (1 + l0) (1 + m0) A Bd (i + 1) lgq tlN tn' F' B' u13 u14 wr) := HO.out
        clear HO
        go_wp2_with fail
        go_roundw
        case rel => exact ⟨i + 1, lgq, tlN, tn', F', B', rfl, rfl, rfl, rfl, rfl, by go_num, by omega, by omega, HO2⟩
        case measure => simp [Go.RowKit.intOf]; omega
  have hlt := Decidable.not_not.1 hnl
  rw [decide_eq_true hlt]
  clear hnl
  obtain ⟨hkr, hk5⟩ := hlt
  obtain ⟨t, ht⟩ : ∃ t, r[k]? = some t := ⟨_, List.getElem?_eq_getElem (by rw [HR.out.2.2.2]; exact hkr)⟩
  obtain ⟨b2, off2, rfl, hc2⟩ := HR.out.2.1 k t ht
  have hc2 : wr.cell? ⟨b2, off2 + k, none⟩ = some (.string t) := cell_later HI.out.low _ _ _ hc2
  have htm : t.size ≤ 9223372036854775807 := HR.out.2.2.1 t (List.mem_of_getElem? ht)
  clear ht
  go_upto_if 109 with fail
  clear hc1 hc2
  go_cut [24] from 87 to 112 (fun v wx => ∃ t' : ByteArray, v = .string t' ∧ t'.size ≤ 60 ∧ wx = wr)
  case first =>
    by_cases h60 : 60 < t.size
    · have l60 : (60 : Int) < (t.size : Nat) := by omega
      have h60' : 60 ≤ t.size := by omega
      have hex : (t.extract 0 60).size ≤ 60 := by simp; omega
      clear h60
      go_wp2_with fail
      go_meet
      case rel => exact ⟨_, rfl, hex, rfl⟩
    · have l60 : ¬ (60 : Int) < (t.size : Nat) := by omega
      have hle : t.size ≤ 60 := by omega
      clear h60
      go_wp2_with fail
      go_meet
      case rel => exact ⟨_, rfl, hle, rfl⟩
  case rest =>
  obtain ⟨t', rfl, ht60, hwc⟩ := hcut
  rw [hwc]
  clear hwc htm
  obtain ⟨hs360, htn⟩ := HI.out.ns hl4 hk6
  have hcv := Lib.run_convert_string_bytes (P := Try.prog) wr 9 46 5 t' Try.underlying9 (by kernel_rfl) Try.underlying5
  have HC : Hid (Calls Try.prog 12 #[.pointer (some ⟨Bd, 0, none⟩), .string ⟨#[97]⟩, .slice (some ⟨wr.heap.size, 0, none⟩) t'.size (grownCap wr t'.size 0 5)] (Lib.bytesWorld wr 5 t') _) := KI.append HI.out hl4 hk5 ht60 (below_conv wr t') (lat_conv wr t' (by unfold maxLen; omega))
  obtain ⟨s2, hs2⟩ : ∃ s2, s ++ t' = s2 := ⟨_, rfl⟩
  rw [hs2] at HC
  have HS2 : Hid (s ++ t' = s2) := hs2
  clear hs2 HI
  go_wp2_with fail
  refine HC.out.mono ?_
  rintro e w9 ⟨rfl, h9⟩
  obtain ⟨hs3, _⟩ := h9.ns hl4 (by omega)
  have HI9 : Hid (KI w i (1 + l0) (1 + m0) A Bd lgN tlN tn' F' B' (k + 1) (5000 * i + 3 + 800 * k + 0) 0 false s2 u13 u14 w9) := h9
  clear h9 HC hcv
  try rw [HS2.out]
  obtain ⟨n2, hn2⟩ : ∃ n, s2.size = n := ⟨_, rfl⟩
  have HN2 : Hid (s2.size = n2) := hn2
  rw [hn2] at hs3
  go_wp2_with fail
  go_loopw [11, 12, 13, 17, 25] (fun v11 v12 v13 v17 v25 u => ∃ (j tn' F' B' : Nat) (z : Bool), v11 = .pointer (some ⟨F', 0, none⟩) ∧ v12 = .int .i64 0 ∧ v17 = .int .i64 (tn' : Nat) ∧ v25 = .int .i64 (j : Nat) ∧ j ≤ 4 + 2 * n2 ∧ Hid (KI w i (1 + l0) (1 + m0) A Bd lgN tlN tn' F' B' (k + 1) (5000 * i + 3 + 800 * k + j) j z s2 v13 u14 u)) (fun _ _ _ _ q _ => 4 + 2 * n2 - (Go.RowKit.intOf q).toNat)
  case atStart => exact ⟨0, tn', F', B', false, rfl, rfl, rfl, rfl, by omega, HI9⟩
  case round =>
  obtain ⟨j, tn', F', B', z, rfl, rfl, rfl, rfl, hj, HI⟩ := hrel
  clear HI9
  by_cases hjl : j < 4 + 2 * n2
  · have l5 : (j : Int) < 2 * (n2 : Int) + 4 := by omega
    have l5' : (j : Int) < 4 + 2 * (n2 : Int) := by omega
    have HC : Hid (Calls Try.prog 11 #[.pointer (some ⟨F', 0, none⟩), .pointer (some ⟨Bd, 0, none⟩)] wr _) := KI.step HI.out hl4 (by omega) (by omega) (by omega)
    clear HI
    go_wp2_with fail
    refine HC.out.mono ?_
    rintro e w10 (⟨rfl, h10⟩ | ⟨q, t3, rfl, h10⟩)
    · have HI2 : Hid (KI w i (1 + l0) (1 + m0) A Bd lgN tlN tn' F' B' (k + 1) (5000 * i + 3 + 800 * k + (j + 1)) (j + 1) false s2 u13 u14 (w10.alloc (.cells #[.int .i64 0, .int .i64 0, .int .i64 0, .int .i64 0, .int .i64 0, .int .i64 0, .int .i64 0, .int .i64 0, .int .i64 0, .string ⟨#[]⟩] 42))) := h10.later ((Below.refl _ _).alloc (Nat.le_refl _) _)
      clear h10 HC l5 l5'
      go_wp2_with fail
      go_roundw
      case rel => exact ⟨j + 1, tn', F', B', false, rfl, rfl, rfl, by go_num, by omega, HI2⟩
      case measure => simp [Go.RowKit.intOf]; omega
    · clear HC l5 l5'
      obtain ⟨w11, hw11⟩ : ∃ y, w10.alloc (.cells #[.int .i64 q.s, .int .i64 q.n, .int .i64 q.g, .int .i64 q.o, .int .i64 q.ms, .int .i64 q.gn, .int .i64 q.ct, .int .i64 q.tl, .int .i64 q.lg, .string t3] 42) = y := ⟨_, rfl⟩
      obtain ⟨A4, hA4⟩ : ∃ A, w10.heap.size = A := ⟨_, rfl⟩
      have k11 : Below w10.heap.size w10 w11 := by rw [← hw11]; exact (Below.refl _ _).alloc (Nat.le_refl _) _
      have HW11 : Hid (w10.alloc (.cells #[.int .i64 q.s, .int .i64 q.n, .int .i64 q.g, .int .i64 q.o, .int .i64 q.ms, .int .i64 q.gn, .int .i64 q.ct, .int .i64 q.tl, .int .i64 q.lg, .string t3] 42) = w11 ∧ w10.heap.size = A4) := ⟨hw11, hA4⟩
      have b11 : w11.heap[A4]? = some (.cells #[.int .i64 q.s, .int .i64 q.n, .int .i64 q.g, .int .i64 q.o, .int .i64 q.ms, .int .i64 q.gn, .int .i64 q.ct, .int .i64 q.tl, .int .i64 q.lg, .string t3] 42 (0, 0)) := by rw [← hw11, ← hA4]; exact heap_alloc_new w10 _
      have c9 : w11.cell? ⟨A4, 9, none⟩ = some (.string t3) := by simp [World.cell?, b11]
      obtain ⟨w12, hw12⟩ : ∃ y, w11.alloc (.cells #[.string t3] 9) = y := ⟨_, rfl⟩
      have k12 : Below w11.heap.size w11 w12 := by rw [← hw12]; exact (Below.refl _ _).alloc (Nat.le_refl _) _
      have HW12 : Hid (w11.alloc (.cells #[.string t3] 9) = w12) := hw12
      have HAL : Hid (LAt w12 (.slice (some ⟨w11.heap.size, 0, none⟩) 1 1) [.string t3]) := by rw [← hw12]; exact lat_lit w11 _ _ _
      obtain ⟨X, ho, hb0, hput⟩ := ((h10.later k11).later k12).own
      obtain ⟨va, vc, rfl⟩ := own_form ho
      have htn9 : tn' + 1 ≤ 3000 := by
        obtain ⟨_, _, _, _, _, _, _, _, _, _, h⟩ := h10
        have a1 := h.tn1
        have a2 := h.gb
        have a3 := h.ll.1
        have a4 := h.af.cl
        have a5 := h.sb
        rw [sz_list] at a4
        omega
      have HA : Hid (w12.ownsRow w.heap.size 9 1 (.slice va tn' vc) tn' (sv X) ∧ w.heap.size ≤ w12.heap.size) := ⟨ho, hb0⟩
      have HPU : Hid (∀ v V', w12.grownBy v (Value.slice va tn' vc).ownBlock → v.ownsRow w.heap.size 9 1 V' (tn' + 1) (sv X ++ [.string t3]) → Here w12 (.slice va tn' vc) V' → KI w i (1 + l0) (1 + m0) A Bd lgN tlN (tn' + 1) F' B' (k + 1) (5000 * i + 3 + 800 * k + (j + 1)) (j + 1) true s2 V' u14 v) := hput
      clear hw11 hA4 k11 b11 hw12 k12 ho hb0 hput h10
      go_upto_region 42 with fail
      rw [HW11.out.1, HW11.out.2]
      clear HW11
      go_wp2_with (rw [HW12.out]; refine wpList_append_lat rfl (.tmp 136) (.tmp 139) rfl (.string ⟨#[]⟩) 16 (by kernel_rfl) infS rfl w.heap.size _ tn' (sv X) rfl HA.out.1 _ [.string t3] rfl HAL.out (fun u hu => by simp at hu; subst hu; rfl) (by simp only [List.length_singleton]; unfold maxLen; omega) (by simp only [List.length_singleton]; omega) HA.out.2 ?_; intro V' w3 ho3 hg3 hn3 hh3; have HI2 : Hid (KI w i (1 + l0) (1 + m0) A Bd lgN tlN (tn' + 1) F' B' (k + 1) (5000 * i + 3 + 800 * k + (j + 1)) (j + 1) true s2 V' u14 w3) := HPU.out _ _ hg3 ho3 hh3; clear ho3 hg3 hn3 hh3)
      clear HW12 HA HPU HAL c9
      have HMD : Hid (Calls Try.prog 6 #[.int .i64 ag, .int .i64 3] w3 fun e w' => ∃ m : Nat, e = .returned (.int .i64 (m : Nat)) ∧ m < 3 ∧ w' = w3) := mod_fn (n := 3) w3 HP.out.2 (by decide) (by decide)
      go_wp2_with fail
      refine HMD.out.mono ?_
      rintro e wx ⟨mm, rfl, hmm, hwx⟩
      rw [hwx]
      clear hwx HMD
      by_cases heq : ((tn' : Int) + 1) % 3 = (mm : Int)
      · have hne : (((tn' : Int) + 1) % 3 == (mm : Int)) = true := by simp; omega
        have hpt : PtBx w3 A := HI2.out.pth
        have hfw : Hid (∀ u, Below w3.heap.size w3 u → u.cell? ⟨A, 0, none⟩ = some (.string ⟨#[97]⟩) ∧ u.cell? ⟨A, 1, none⟩ = some (.string ⟨#[97, 46, 49]⟩)) := fun u hu => by
          have hp : u.heap[A]? = some (.cells #[.string sa, .string sr] 29 (0, 0)) := (hu.block A (Array.getElem?_eq_some_iff.1 hpt).1).trans hpt
          constructor
          · simp [World.cell?, hp, sa]
          · simp [World.cell?, hp, sr]
        obtain ⟨⟨q0, q1, q2, q3, q4, q5, q6, q7, q8⟩, hmk, hnw⟩ := HI2.out.anew (by omega) (by omega)
        unfold mrkBox pathV at hnw
        unfold mrkBox at hmk
        have HMK : Hid _ := hmk
        have HNW : Hid (∀ v, Below w3.heap.size w3 v → Calls Try.prog 8 #[.agg #[.string ⟨#[97]⟩, .string ⟨#[97, 46, 49]⟩], .int .i64 (1 + (l0 : Int)), .int .i64 (1 + (m0 : Int)), .agg #[.int .i64 q0, .int .i64 q1, .int .i64 q2, .int .i64 q3, .int .i64 q4, .int .i64 q5, .int .i64 q6, .int .i64 q7, .int .i64 q8], .pointer (some ⟨Bd, 0, none⟩)] v fun e y => ∃ F2 B2, e = .returned (.tuple #[.pointer (some ⟨F2, 0, none⟩), .int .i64 0]) ∧ KI w i (1 + l0) (1 + m0) A Bd lgN tlN (tn' + 1) F2 B2 (k + 1) (5000 * i + 3 + 800 * k + (j + 1)) (j + 1) true s2 V' u14 y) := hnw
        obtain ⟨p0, p1⟩ := hfw.out w3 (Below.refl _ _)
        clear heq hmk hnw hpt HI2
        go_upto_region 46 with fail
        clear hne
        go_cut [11, 12] from 148 to 158 (fun v11 v12 wx => ∃ F2 B2 : Nat, v11 = .pointer (some ⟨F2, 0, none⟩) ∧ v12 = .int .i64 0 ∧ Hid (KI w i (1 + l0) (1 + m0) A Bd lgN tlN (tn' + 1) F2 B2 (k + 1) (5000 * i + 3 + 800 * k + (j + 1)) (j + 1) true s2 V' u14 wx))
        case first =>
          go_region_with (first
            | (go_at_call 13; refine (HMK.out _ (by first | exact Below.refl _ _ | exact (Below.refl _ _).drew)).mono ?_; rintro e u ⟨rfl, ku⟩; have HU : Hid (Below w3.heap.size w3 u) := (by first | exact below_step (Below.refl _ _) ku | exact below_step (Below.refl _ _).drew ku); obtain ⟨p2, p3⟩ := hfw.out u HU.out; clear ku)
            | (go_at_call 8; refine (HNW.out _ (by first | exact HU.out | exact HU.out.drew)).mono ?_; rintro e y ⟨F2, B2, rfl, hk⟩; have HK : Hid (KI w i (1 + l0) (1 + m0) A Bd lgN tlN (tn' + 1) F2 B2 (k + 1) (5000 * i + 3 + 800 * k + (j + 1)) (j + 1) true s2 V' u14 y) := hk; clear hk))
          all_goals
            go_wp2_with fail
            go_meet
            case rel => exact ⟨F2, B2, rfl, rfl, HK⟩
        case rest =>
        obtain ⟨F2, B2, rfl, rfl, HK⟩ := hcut
        clear HMK HNW hfw
        go_wp2_with fail
        go_roundw
        case rel => exact ⟨j + 1, tn' + 1, F2, B2, true, rfl, rfl, by go_num, by go_num, by omega, HK⟩
        case measure => simp [Go.RowKit.intOf]; omega
      · have hne : (((tn' : Int) + 1) % 3 == (mm : Int)) = false := by simp; omega
        clear heq
        go_wp2_with fail
        go_roundw
        case rel => exact ⟨j + 1, tn' + 1, F', B', true, rfl, rfl, by go_num, by go_num, by omega, HI2⟩
        case measure => simp [Go.RowKit.intOf]; omega
  · obtain rfl : j = 4 + 2 * n2 := by omega
    have l5 : ¬ ((4 + 2 * n2 : Nat) : Int) < 4 + 2 * (n2 : Int) := by omega
    have HI2 : Hid (KI w i (1 + l0) (1 + m0) A Bd lgN tlN tn' F' B' (k + 1) (5000 * i + 3 + 800 * (k + 1)) s2.size false s2 u13 u14 wr) := (HI.out.full (n := s2.size) (by rw [HN2.out]; omega)).upM (by omega)
    clear HI hjl
    go_wp2_with fail
    go_roundw
    case rel => exact ⟨k + 1, tn', F', B', s2, rfl, rfl, rfl, rfl, by go_num, by omega, HI2⟩
    case measure => simp [Go.RowKit.intOf]; omega
end Go.Proofs.Ytpikepifhnkmkaa
