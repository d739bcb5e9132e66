/- heronlaw17: FollowStood (typed by gen/fostd.py). -/
import Derived.Test.YtpikepifhnkmkaaG50
import Derived.Test.YtpikepifhnkmkaaG51
namespace Go.Proofs.Ytpikepifhnkmkaa
open Go.RowKit Go.Maps Sf Ln Fo
attribute [local go_sem ↓] Go.wp_at_zero Go.wp_at_succ

structure Op7Good (w : World) (o : Op7) : Prop where
  ok : o.e.Ok
  kv : LAt w o.kv (ints o.e.keep)
  kl : o.e.keep.length ≤ 17592186043904
  n : goodI o.n
structure OpsA (w : World) (a : Option Addr) (ops : List Op7) : Prop where
  cells : ops = [] ∨ ∃ b off, a = some ⟨b, off, none⟩ ∧ ∀ i o, ops[i]? = some o → ∀ k v, o.cells[k]? = some v → w.cell? ⟨b, off + i * 15 + k, none⟩ = some v
  good : ∀ o ∈ ops, Op7Good w o
  len : ops.length ≤ 17592186043904
theorem lat_off {P : Nat → Prop} {w u : World} {V : Value} {xs : List Value} (h : LAt w V xs) (hl : Below w.heap.size w u) (hp : ∀ k, P k → w.heap.size ≤ k) : LAtX (fun k => ¬ P k) u V xs := by
  refine ⟨h.later hl, fun b off n c e hx hb => ?_⟩
  have := hp b hb
  obtain ⟨a', c', e', _, _, h3⟩ := h
  rw [e] at e'
  cases e'
  rcases h3 with h3 | ⟨b', off', e2, hc⟩
  · exact hx h3
  · cases e2
    cases xs with
    | nil => exact hx rfl
    | cons x r =>
      have hc0 := hc 0 x rfl
      have := World.block_lt_of_cell? w _ hc0
      have : b < w.heap.size := this
      omega
/-- the law's state between two steps -/
def StdI (w : World) (ln L Bd F B K C : Nat) (u : World) : Prop := ∃ d f Pd lm, FoS w Pd Bd F B d f K C u ∧ MkBx u L lm ∧ ¬ Pd L ∧ w.heap.size ≤ L ∧ Inv f d ∧ Behind f lm ∧ f.k.most = ln
section
variable {u v : World} {z : Nat} {m : Mrk}
theorem MkBx.ty (h : MkBx u z m) : TyB u 37 z := ⟨_, _, h⟩
theorem MkBx.lt (h : MkBx u z m) : z < u.heap.size := (Array.getElem?_eq_some_iff.1 h).1
theorem MkBx.kept (h : MkBx u z m) (hb : Bxs u v) : MkBx v z m := (hb _ z h.ty (by decide) (by decide) (by decide)).trans h
theorem MkBx.later (h : MkBx u z m) (hb : Below u.heap.size u v) : MkBx v z m := (hb.block z h.lt).trans h
theorem MkBx.cells (h : MkBx u z m) : u.cell? ⟨z, 0, none⟩ = some (.int .i64 m.s) ∧ u.cell? ⟨z, 1, none⟩ = some (.int .i64 m.n) ∧ u.cell? ⟨z, 2, none⟩ = some (.int .i64 m.g) ∧ u.cell? ⟨z, 3, none⟩ = some (.int .i64 m.o) ∧ u.cell? ⟨z, 4, none⟩ = some (.int .i64 m.ms) ∧ u.cell? ⟨z, 5, none⟩ = some (.int .i64 m.gn) ∧ u.cell? ⟨z, 6, none⟩ = some (.int .i64 m.ct) ∧ u.cell? ⟨z, 7, none⟩ = some (.int .i64 m.tl) ∧ u.cell? ⟨z, 8, none⟩ = some (.int .i64 m.lg) := by
  simp [World.cell?, show u.heap[z]? = _ from h, mkC]
theorem MkBx.frozen (h : MkBx u z m) (j : Nat) : u.frozen? ⟨z, j, none⟩ = false := by simp [World.frozen?, show u.heap[z]? = _ from h]
def LsBx (u : World) (z : Nat) (m : Mrk) : Prop := u.heap[z]? = some (.cells #[.int .i64 m.ms, .int .i64 m.gn, .int .i64 m.ct, .int .i64 m.tl, .int .i64 m.lg] 35 (0, 0))
theorem LsBx.later (h : LsBx u z m) (hb : Below u.heap.size u v) : LsBx v z m := (hb.block z (Array.getElem?_eq_some_iff.1 h).1).trans h
theorem LsBx.cells (h : LsBx u z m) : u.cell? ⟨z, 0, none⟩ = some (.int .i64 m.ms) ∧ u.cell? ⟨z, 1, none⟩ = some (.int .i64 m.gn) ∧ u.cell? ⟨z, 2, none⟩ = some (.int .i64 m.ct) ∧ u.cell? ⟨z, 3, none⟩ = some (.int .i64 m.tl) ∧ u.cell? ⟨z, 4, none⟩ = some (.int .i64 m.lg) := by
  simp [World.cell?, show u.heap[z]? = _ from h]
end
set_option maxHeartbeats 1000000 in
theorem mk_over {u : World} {z : Nat} {m0 : Mrk} (h : MkBx u z m0) (m : Mrk) : MkBx (((((((((u.setCell ⟨z, 0, none⟩ (.int .i64 m.s)).setCell ⟨z, 1, none⟩ (.int .i64 m.n)).setCell ⟨z, 2, none⟩ (.int .i64 m.g)).setCell ⟨z, 3, none⟩ (.int .i64 m.o)).setCell ⟨z, 4, none⟩ (.int .i64 m.ms)).setCell ⟨z, 5, none⟩ (.int .i64 m.gn)).setCell ⟨z, 6, none⟩ (.int .i64 m.ct)).setCell ⟨z, 7, none⟩ (.int .i64 m.tl)).setCell ⟨z, 8, none⟩ (.int .i64 m.lg)) z m := by
  unfold MkBx at h ⊢
  rw [heap_set (heap_set (heap_set (heap_set (heap_set (heap_set (heap_set (heap_set (heap_set h 0 (.int .i64 m.s)) 1 (.int .i64 m.n)) 2 (.int .i64 m.g)) 3 (.int .i64 m.o)) 4 (.int .i64 m.ms)) 5 (.int .i64 m.gn)) 6 (.int .i64 m.ct)) 7 (.int .i64 m.tl)) 8 (.int .i64 m.lg)]
  simp [mkC]
theorem FoS.setL {w0 u : World} {Pd : Nat → Prop} {Bd F B K C : Nat} {d : Dk} {f : Fo} (h : FoS w0 Pd Bd F B d f K C u) {z : Nat} (hz : TyB u 37 z) (hn : ¬ Pd z) (hw : w0.heap.size ≤ z) (j : Nat) (x : Value) : FoS w0 Pd Bd F B d f K C (u.setCell ⟨z, j, none⟩ x) ∧ TyB (u.setCell ⟨z, j, none⟩ x) 37 z := by
  obtain ⟨V, h1, h2⟩ := h.fo
  have n1 : F ≠ z := fun e => by subst e; exact absurd (TyB.ne hz h1.b.ty) (by decide)
  have n2 : B ≠ z := fun e => by subst e; exact absurd (TyB.ne hz h1.m.b.ty) (by decide)
  have n3 : ∀ b, V.ownBlock = some b → b ≠ z := fun b hb e => by subst e; exact absurd (TyB.ne (h1.m.o.ty hb).1 hz) (by decide)
  refine ⟨⟨h.dk.keep (fun k hk => Below.heap_setCell u ⟨z, j, none⟩ x k (fun e => hn (by subst e; exact hk))) (by simp), ⟨V, ⟨(Below.heap_setCell u ⟨z, j, none⟩ x F n1).trans h1.b, h1.m.b.same (Below.heap_setCell u ⟨z, j, none⟩ x B n2), h1.m.o.keep fun b hb _ => Below.heap_setCell u ⟨z, j, none⟩ x b (n3 b hb)⟩, h2⟩, h.nf, h.ok, below_set' h.lo hw j x, h.hd, h.c⟩, ?_⟩
  obtain ⟨c, q, hc⟩ := hz
  exact ⟨_, _, heap_set hc j x⟩
theorem FoS.setM {w0 u : World} {Pd : Nat → Prop} {Bd F B K C : Nat} {d : Dk} {f : Fo} (h : FoS w0 Pd Bd F B d f K C u) {z : Nat} (hz : TyB u 37 z) (hn : ¬ Pd z) (hw : w0.heap.size ≤ z) (m : Mrk) : FoS w0 Pd Bd F B d f K C (((((((((u.setCell ⟨z, 0, none⟩ (.int .i64 m.s)).setCell ⟨z, 1, none⟩ (.int .i64 m.n)).setCell ⟨z, 2, none⟩ (.int .i64 m.g)).setCell ⟨z, 3, none⟩ (.int .i64 m.o)).setCell ⟨z, 4, none⟩ (.int .i64 m.ms)).setCell ⟨z, 5, none⟩ (.int .i64 m.gn)).setCell ⟨z, 6, none⟩ (.int .i64 m.ct)).setCell ⟨z, 7, none⟩ (.int .i64 m.tl)).setCell ⟨z, 8, none⟩ (.int .i64 m.lg)) := by
  have a0 := h.setL hz hn hw 0 (.int .i64 m.s)
  have a1 := a0.1.setL a0.2 hn hw 1 (.int .i64 m.n)
  have a2 := a1.1.setL a1.2 hn hw 2 (.int .i64 m.g)
  have a3 := a2.1.setL a2.2 hn hw 3 (.int .i64 m.o)
  have a4 := a3.1.setL a3.2 hn hw 4 (.int .i64 m.ms)
  have a5 := a4.1.setL a4.2 hn hw 5 (.int .i64 m.gn)
  have a6 := a5.1.setL a5.2 hn hw 6 (.int .i64 m.ct)
  have a7 := a6.1.setL a6.2 hn hw 7 (.int .i64 m.tl)
  have a8 := a7.1.setL a7.2 hn hw 8 (.int .i64 m.lg)
  exact a8.1
set_option maxRecDepth 8000 in
set_option maxHeartbeats 16000000 in
theorem stood_any {w : World} {ln ck : Int} (hln : goodI ln) (hck : goodI ck) {a : Option Addr} {c : Nat} {ops : List Op7} (h1 : OpsA w a ops) : Calls Try.prog 4 #[.int .i64 ln, .int .i64 ck, .slice a ops.length c] w fun e w' => e = .returned (.bool true) ∧ Below w.heap.size w w' := by
  have HO : Hid (OpsA w a ops) := h1
  obtain ⟨N, hN⟩ : ∃ N, ops.length = N := ⟨_, rfl⟩
  have HN : Hid (ops.length = N) := hN
  have hN2 : N ≤ 17592186043904 := by rw [← hN]; exact h1.len
  rw [hN]
  have hp2 : ∀ (p : Option Addr) (u : World), (binOp .eql 30 (.pointer p) (.pointer none)).run Try.prog u = .ok (.bool p.isNone) u := fun p u => run_eql_pointer_nil u _ p (by kernel_rfl)
  have HFX : Hid (Calls Try.prog 5 #[] w _) := fixed_any w
  have HM1 : Hid (∀ u, Calls Try.prog 6 #[.int .i64 ln, .int .i64 40] u fun e w' => ∃ m : Nat, e = .returned (.int .i64 (m : Nat)) ∧ m < 40 ∧ w' = u) := fun u => mod_fn (n := 40) u hln (by decide) (by decide)
  have HM2 : Hid (∀ u, Calls Try.prog 6 #[.int .i64 ck, .int .i64 40] u fun e w' => ∃ m : Nat, e = .returned (.int .i64 (m : Nat)) ∧ m < 40 ∧ w' = u) := fun u => mod_fn (n := 40) u hck (by decide) (by decide)
  clear h1 hN hln hck
  go_enter Try.func4, Try.ntmps4
  go_wp2_with fail
  refine HFX.out.mono ?_
  rintro e w1 ⟨rfl, k1⟩
  have HK1 : Hid (Below w.heap.size w w1) := k1
  clear k1 HFX
  go_wp2_with fail
  refine (HM1.out w1).mono ?_
  rintro e wx ⟨l0, rfl, hl0, hwx⟩
  rw [hwx]
  clear hwx HM1
  go_wp2_with fail
  refine (HM2.out w1).mono ?_
  rintro e wx ⟨c0, rfl, hc0, hwx⟩
  rw [hwx]
  clear hwx HM2
  have HNW : Hid (Calls Try.prog 7 #[] w1 _) := new_any w1
  go_wp2_with fail
  refine HNW.out.mono ?_
  rintro e w2 ⟨Bd, P, rfl, hd2, hlow, k2⟩
  have HD2 : Hid (Dsk P w2 Bd Sf.new 0 ∧ Below w.heap.size w w2 ∧ ∀ k, P k → w.heap.size ≤ k) := ⟨hd2, below_step HK1.out k2, fun k hk => Nat.le_trans HK1.out.size (hlow k hk)⟩
  have HC : Hid (Calls Try.prog 8 #[.agg #[.string ⟨#[97]⟩, .string ⟨#[97, 46, 49]⟩], .int .i64 (1 + (l0 : Int)), .int .i64 (1 + (c0 : Int)), .agg #[.int .i64 0, .int .i64 0, .int .i64 0, .int .i64 0, .int .i64 0, .int .i64 0, .int .i64 0, .int .i64 0, .int .i64 0], .pointer (some ⟨Bd, 0, none⟩)] w2 _) := new_ok hd2 sa sr (by decide) (by decide) (1 + l0) (1 + c0) zeroM ⟨err_may may_a, .inl (err_may may_r)⟩ ⟨by omega, by omega⟩ ⟨by omega, by omega⟩ may_zero
  clear hd2 hlow k2 HNW HK1
  go_wp2_with fail
  refine HC.out.mono ?_
  rintro e w3 ⟨F, B, rfl, hn3⟩
  rw [fx_made] at hn3
  have HS3 : Hid (FoS w P Bd F B Sf.new (newF sa (1 + l0) (1 + c0) zeroM) 0 0 w3) := FoS.made HD2.out.1 HD2.out.2.1 HD2.out.2.2 hn3 (new_in sa (1 + l0) (1 + c0) (by omega) ⟨by omega, by omega⟩ (by decide))
  clear hn3 HC HD2
  obtain ⟨w4, hw4⟩ : ∃ w4, w3.alloc (.cells #[.int .i64 (-1), .int .i64 0, .int .i64 0, .int .i64 0, .int .i64 0, .int .i64 0, .int .i64 0, .int .i64 0, .int .i64 0] 37) = w4 := ⟨_, rfl⟩
  obtain ⟨L, hL⟩ : ∃ L, w3.heap.size = L := ⟨_, rfl⟩
  have k4 : Below w3.heap.size w3 w4 := by rw [← hw4]; exact (Below.refl _ _).alloc (Nat.le_refl _) _
  have HW4 : Hid (w3.alloc (.cells #[.int .i64 (-1), .int .i64 0, .int .i64 0, .int .i64 0, .int .i64 0, .int .i64 0, .int .i64 0, .int .i64 0, .int .i64 0] 37) = w4 ∧ w3.heap.size = L) := ⟨hw4, hL⟩
  have H0 : Hid (StdI w (1 + l0) L Bd F B 0 (6 * 0) w4) := by
    refine ⟨Sf.new, newF sa (1 + l0) (1 + c0) zeroM, P, ⟨-1, 0, 0, 0, 0, 0, 0, 0, 0⟩, HS3.out.later k4, by rw [← hw4, ← hL]; exact heap_alloc_new w3 _, fun e => by have := HS3.out.dk.m.low L e; omega, by have := HS3.out.lo.size; omega, ⟨Int.le_refl _, fun e => absurd rfl e⟩, ⟨fun e => absurd rfl e, by show (-1 : Int) ≤ 0; decide⟩, rfl⟩
  clear hw4 hL k4 HS3
  go_upto_region 10 with fail
  rw [HW4.out.1, HW4.out.2]
  clear HW4
  go_wp2_with fail
  go_loopw [11] (fun i u => ∃ k : Nat, i = .int .i64 (k : Nat) ∧ k ≤ N ∧ k ≤ 120 ∧ Hid (StdI w (1 + l0) L Bd F B k (6 * k) u)) (fun i _ => 121 - (Go.RowKit.intOf i).toNat)
  case atStart => exact ⟨0, rfl, Nat.zero_le _, by omega, H0⟩
  case round =>
  obtain ⟨k, rfl, hkN, hk120, HI⟩ := hrel
  clear H0
  go_upto_region 11 with fail
  go_cut [51] from 44 to 172 (fun v wx => v = .bool (decide (k < N ∧ k < 120)) ∧ wx = wr)
  case first =>
    by_cases h1 : k < N
    · have l1 : (k : Int) < (N : Int) := by omega
      by_cases h2 : k < 120
      · have l2 : (k : Int) < 120 := by omega
        have HT : Hid (decide (k < N ∧ k < 120) = true) := decide_eq_true ⟨h1, h2⟩
        clear h1 h2
        go_wp2_with fail
        go_meet
        case rel => exact ⟨by rw [HT.out], rfl⟩
      · have l2 : ¬ (k : Int) < 120 := by omega
        have HT : Hid (decide (k < N ∧ k < 120) = false) := decide_eq_false (fun x => h2 x.2)
        clear h1 h2
        go_wp2_with fail
        go_meet
        case rel => exact ⟨by rw [HT.out], rfl⟩
    · have l1 : ¬ (k : Int) < (N : Int) := by omega
      have HT : Hid (decide (k < N ∧ k < 120) = false) := decide_eq_false (fun x => h1 x.1)
      clear h1
      go_wp2_with fail
      go_meet
      case rel => exact ⟨by rw [HT.out], rfl⟩
  case rest =>
  obtain ⟨rfl, hwc⟩ := hcut
  rw [hwc]
  clear hwc
  by_cases hnl : ¬ (k < N ∧ k < 120)
  · rw [decide_eq_false hnl]
    have HE : Hid (Below w.heap.size w wr) := by obtain ⟨_, _, _, _, h, _⟩ := HI.out; exact h.lo
    clear hnl
    go_wp2_with fail
    go_ret
    exact ⟨rfl, HE.out⟩
  have hlt := Decidable.not_not.1 hnl
  clear hnl
  rw [decide_eq_true hlt]
  obtain ⟨hl1, hl2⟩ := hlt
  have l1 : (k : Int) < (N : Int) := by omega
  obtain ⟨o, ho⟩ : ∃ o, ops[k]? = some o := ⟨_, List.getElem?_eq_getElem (by rw [HN.out]; exact hl1)⟩
  have HG : Hid (Op7Good w o) := HO.out.good o (List.mem_of_getElem? ho)
  obtain ⟨b1, off1, rfl, hcell0⟩ : ∃ b off, a = some ⟨b, off, none⟩ ∧ ∀ j v, o.cells[j]? = some v → w.cell? ⟨b, off + k * 15 + j, none⟩ = some v := by
    rcases HO.out.cells with x | ⟨b, off, e, x⟩
    · rw [x] at ho; cases ho
    · exact ⟨b, off, e, fun j v hv => x k o ho j v hv⟩
  have HCE : Hid (∀ u, Below w.heap.size w u → ∀ j v, o.cells[j]? = some v → u.cell? ⟨b1, off1 + k * 15 + j, none⟩ = some v) := fun u hu j v hv => cell_later hu _ _ _ (hcell0 j v hv)
  clear hcell0 ho
  have hlo : Below w.heap.size w wr := by obtain ⟨_, _, _, _, h, _⟩ := HI.out; exact h.lo
  have f0 : wr.cell? ⟨b1, off1 + k * 15, none⟩ = some (.int .i64 o.e.kind) := HCE.out wr hlo 0 _ rfl
  by_cases hk7 : o.e.kind < 7
  · obtain ⟨d, f, Pd, lm, hS, hMk, hnL, hwL, hInv, hBe, hmo⟩ := HI.out
    have HS : Hid (FoS w Pd Bd F B d f k (6 * k) wr ∧ MkBx wr L lm ∧ ¬ Pd L ∧ w.heap.size ≤ L ∧ Inv f d ∧ Behind f lm ∧ f.k.most = 1 + l0) := ⟨hS, hMk, hnL, hwL, hInv, hBe, hmo⟩
    have HDO := does_any hS.dk o HG.out.ok (lat_off HG.out.kv hlo hS.hd) HG.out.kl
    unfold Op7.cells at HDO
    obtain ⟨ka, kc, hkv, _⟩ := HG.out.kv
    obtain ⟨nk, hnk⟩ : ∃ nk, (ints o.e.keep).length = nk := ⟨_, rfl⟩
    have HKV : Hid (o.kv = .slice ka nk kc) := by rw [← hnk]; exact hkv
    rw [HKV.out] at HDO
    have HDO : Hid (Calls Try.prog 15 #[.pointer (some ⟨Bd, 0, none⟩), .agg #[.int .i64 o.e.kind, .string o.e.a, .string o.e.b, .string o.e.s, .slice ka nk kc, .int .i64 o.n, .int .i64 o.m.s, .int .i64 o.m.n, .int .i64 o.m.g, .int .i64 o.m.o, .int .i64 o.m.ms, .int .i64 o.m.gn, .int .i64 o.m.ct, .int .i64 o.m.tl, .int .i64 o.m.lg]] wr _) := HDO
    have f1 : wr.cell? ⟨b1, off1 + k * 15 + 1, none⟩ = some (.string o.e.a) := HCE.out wr hlo 1 _ rfl
    have f2 : wr.cell? ⟨b1, off1 + k * 15 + 2, none⟩ = some (.string o.e.b) := HCE.out wr hlo 2 _ rfl
    have f3 : wr.cell? ⟨b1, off1 + k * 15 + 3, none⟩ = some (.string o.e.s) := HCE.out wr hlo 3 _ rfl
    have f4 : wr.cell? ⟨b1, off1 + k * 15 + 4, none⟩ = some (.slice ka nk kc) := by rw [← HKV.out]; exact HCE.out wr hlo 4 _ rfl
    have f5 : wr.cell? ⟨b1, off1 + k * 15 + 5, none⟩ = some (.int .i64 o.n) := HCE.out wr hlo 5 _ rfl
    have f6 : wr.cell? ⟨b1, off1 + k * 15 + 6, none⟩ = some (.int .i64 o.m.s) := HCE.out wr hlo 6 _ rfl
    have f7 : wr.cell? ⟨b1, off1 + k * 15 + 7, none⟩ = some (.int .i64 o.m.n) := HCE.out wr hlo 7 _ rfl
    have f8 : wr.cell? ⟨b1, off1 + k * 15 + 8, none⟩ = some (.int .i64 o.m.g) := HCE.out wr hlo 8 _ rfl
    have f9 : wr.cell? ⟨b1, off1 + k * 15 + 9, none⟩ = some (.int .i64 o.m.o) := HCE.out wr hlo 9 _ rfl
    have f10 : wr.cell? ⟨b1, off1 + k * 15 + 10, none⟩ = some (.int .i64 o.m.ms) := HCE.out wr hlo 10 _ rfl
    have f11 : wr.cell? ⟨b1, off1 + k * 15 + 11, none⟩ = some (.int .i64 o.m.gn) := HCE.out wr hlo 11 _ rfl
    have f12 : wr.cell? ⟨b1, off1 + k * 15 + 12, none⟩ = some (.int .i64 o.m.ct) := HCE.out wr hlo 12 _ rfl
    have f13 : wr.cell? ⟨b1, off1 + k * 15 + 13, none⟩ = some (.int .i64 o.m.tl) := HCE.out wr hlo 13 _ rfl
    have f14 : wr.cell? ⟨b1, off1 + k * 15 + 14, none⟩ = some (.int .i64 o.m.lg) := HCE.out wr hlo 14 _ rfl
    clear hS hMk hnL hwL hInv hBe hmo hkv hnk hlo
    go_wp2_with fail
    refine HDO.out.mono ?_
    rintro e w6 ⟨rfl, hdk⟩
    have HS2 : Hid (StdI w (1 + l0) L Bd F B (k + 1) (6 * (k + 1)) w6) := by
      obtain ⟨hS, hMk, hnL, hwL, hInv, hBe, hmo⟩ := HS.out
      obtain ⟨h2, hm⟩ := hS.does hdk (doE_wf hS.dk.wf o.e) (by omega)
      obtain ⟨x1, x2⟩ := hm L hMk.lt hnL
      exact ⟨_, f, _, lm, h2.upC (by omega) (by omega), x1.trans hMk, x2, hwL, hInv.grow hS.ok (doE_grow hS.dk.wf o.e), hBe, hmo⟩
    clear hdk HDO HKV HS f0 f1 f2 f3 f4 f5 f6 f7 f8 f9 f10 f11 f12 f13 f14 hk7
    go_wp2_with fail
    go_roundw
    case rel => exact ⟨k + 1, by go_num, by omega, by omega, HS2⟩
    case measure => simp [Go.RowKit.intOf]; omega
  have H2 : Hid (StdI w (1 + l0) L Bd F B k (6 * k + 0) wr) := HI.out
  clear hlo
  go_wp2_with fail
  clear f0 HI
  go_loopw [12] (fun q u => ∃ j : Nat, q = .int .i64 (j : Nat) ∧ j ≤ 6 ∧ Hid (StdI w (1 + l0) L Bd F B k (6 * k + j) u)) (fun q _ => 6 - (Go.RowKit.intOf q).toNat)
  case atStart => exact ⟨0, rfl, by omega, H2⟩
  case round =>
  obtain ⟨j, rfl, hj6, HI⟩ := hrel
  clear H2
  have hlo : Below w.heap.size w wr := by obtain ⟨_, _, _, _, h, _⟩ := HI.out; exact h.lo
  have f5 : wr.cell? ⟨b1, off1 + k * 15 + 5, none⟩ = some (.int .i64 o.n) := HCE.out wr hlo 5 _ rfl
  have HMD : Hid (Calls Try.prog 6 #[.int .i64 o.n, .int .i64 6] wr fun e w' => ∃ m : Nat, e = .returned (.int .i64 (m : Nat)) ∧ m < 6 ∧ w' = wr) := mod_fn (n := 6) wr HG.out.n (by decide) (by decide)
  clear hlo
  go_wp2_with fail
  refine HMD.out.mono ?_
  rintro e wx ⟨mm, rfl, hmm, hwx⟩
  rw [hwx]
  clear hwx HMD f5
  by_cases hjm : ¬ (j : Int) < 1 + (mm : Int)
  · have HI2 : Hid (StdI w (1 + l0) L Bd F B (k + 1) (6 * (k + 1)) wr) := by
      obtain ⟨d, f, Pd, lm, hS, hMk, hnL, hwL, hInv, hBe, hmo⟩ := HI.out
      exact ⟨d, f, Pd, lm, (hS.upK (Nat.le_succ k) (by omega)).upC (by omega) (by omega), hMk, hnL, hwL, hInv, hBe, hmo⟩
    go_wp2_with fail
    go_roundw
    case rel => exact ⟨k + 1, by go_num, by omega, by omega, HI2⟩
    case measure => simp [Go.RowKit.intOf]; omega
  obtain ⟨d, f, Pd, lm, hS, hMk, hnL, hwL, hInv, hBe, hmo⟩ := HI.out
  have hjm := Decidable.not_not.1 hjm
  have hjs : j < 6 := by omega
  have HS : Hid (FoS w Pd Bd F B d f k (6 * k + j) wr ∧ MkBx wr L lm ∧ ¬ Pd L ∧ w.heap.size ≤ L ∧ Inv f d ∧ Behind f lm ∧ f.k.most = 1 + l0) := ⟨hS, hMk, hnL, hwL, hInv, hBe, hmo⟩
  have HMK : Hid (Calls Try.prog 13 #[.pointer (some ⟨F, 0, none⟩)] wr _) := hS.mark
  unfold mrkBox at HMK
  clear hS hMk hnL hwL hInv hBe hmo HI
  go_wp2_with fail
  refine HMK.out.mono ?_
  rintro e w5 ⟨rfl, k5⟩
  obtain ⟨w6, hw6⟩ : ∃ x, w5.alloc (.cells #[.int .i64 f.m.s, .int .i64 f.m.n, .int .i64 f.m.g, .int .i64 f.m.o, .int .i64 f.m.ms, .int .i64 f.m.gn, .int .i64 f.m.ct, .int .i64 f.m.tl, .int .i64 f.m.lg] 37) = x := ⟨_, rfl⟩
  obtain ⟨A3, hA3⟩ : ∃ A, w5.heap.size = A := ⟨_, rfl⟩
  have k6 : Below w5.heap.size w5 w6 := by rw [← hw6]; exact (Below.refl _ _).alloc (Nat.le_refl _) _
  have HW6 : Hid (w5.alloc (.cells #[.int .i64 f.m.s, .int .i64 f.m.n, .int .i64 f.m.g, .int .i64 f.m.o, .int .i64 f.m.ms, .int .i64 f.m.gn, .int .i64 f.m.ct, .int .i64 f.m.tl, .int .i64 f.m.lg] 37) = w6 ∧ w5.heap.size = A3) := ⟨hw6, hA3⟩
  have b6 : MkBx w6 A3 f.m := by rw [← hw6, ← hA3]; exact heap_alloc_new w5 _
  have kr6 : Below wr.heap.size wr w6 := below_step k5 k6
  have hS6 := HS.out.1.later kr6
  have HS6 : Hid (FoS w Pd Bd F B d f k (6 * k + j) w6 ∧ MkBx w6 L lm ∧ MkBx w6 A3 f.m) := ⟨hS6, HS.out.2.1.later kr6, b6⟩
  obtain ⟨l, hl⟩ : ∃ l, f.line d = l := ⟨_, rfl⟩
  have HL : Hid (f.line d = l) := hl
  have HST := hS6.step (by omega)
  rw [hl] at HST
  have HST : Hid (Calls Try.prog 11 #[.pointer (some ⟨F, 0, none⟩), .pointer (some ⟨Bd, 0, none⟩)] w6 _) := HST
  clear k5 hw6 hA3 k6 b6 kr6 hS6 hl HMK
  go_upto_region 19 with fail
  rw [HW6.out.1, HW6.out.2]
  clear HW6
  unfold lineV at HST
  cases l with
  | none =>
    have HST2 : Hid (Calls Try.prog 11 #[.pointer (some ⟨F, 0, none⟩), .pointer (some ⟨Bd, 0, none⟩)] w6 fun e v => e = .returned (.tuple #[.agg #[.int .i64 0, .int .i64 0, .int .i64 0, .int .i64 0, .int .i64 0, .int .i64 0, .int .i64 0, .int .i64 0, .int .i64 0, .string ⟨#[]⟩], .bool false]) ∧ FoS w Pd Bd F B d (f.step d) k (6 * k + j + 1) v ∧ Bxs w6 v) := HST
    obtain ⟨f', hf'⟩ : ∃ f', f.step d = f' := ⟨_, rfl⟩
    have HF' : Hid (f.step d = f') := hf'
    rw [hf'] at HST2
    clear hf' HST
    go_wp2_with fail
    refine HST2.out.mono ?_
    rintro e w7 ⟨rfl, hS7, hbx⟩
    obtain ⟨w8, hww8⟩ : ∃ x, w7.alloc (.cells #[.int .i64 0, .int .i64 0, .int .i64 0, .int .i64 0, .int .i64 0, .int .i64 0, .int .i64 0, .int .i64 0, .int .i64 0, .string ⟨#[]⟩] 42) = x := ⟨_, rfl⟩
    obtain ⟨A4, hAA4⟩ : ∃ A, w7.heap.size = A := ⟨_, rfl⟩
    have kw8 : Below w7.heap.size w7 w8 := by rw [← hww8]; exact (Below.refl _ _).alloc (Nat.le_refl _) _
    have HWw8 : Hid (w7.alloc (.cells #[.int .i64 0, .int .i64 0, .int .i64 0, .int .i64 0, .int .i64 0, .int .i64 0, .int .i64 0, .int .i64 0, .int .i64 0, .string ⟨#[]⟩] 42) = w8 ∧ w7.heap.size = A4) := ⟨hww8, hAA4⟩
    have b8 : LnBx w8 A4 zeroM ⟨#[]⟩ := by rw [← hww8, ← hAA4]; exact heap_alloc_new w7 _
    have HS8 : Hid (FoS w Pd Bd F B d f' k (6 * k + j + 1) w8 ∧ MkBx w8 L lm ∧ MkBx w8 A3 f.m ∧ LnBx w8 A4 zeroM ⟨#[]⟩) := ⟨hS7.later kw8, (HS6.out.2.1.kept hbx).later kw8, (HS6.out.2.2.kept hbx).later kw8, b8⟩
    have HMK : Hid (Calls Try.prog 13 #[.pointer (some ⟨F, 0, none⟩)] w8 _) := HS8.out.1.mark
    unfold mrkBox at HMK
    clear hS7 hbx hww8 hAA4 kw8 b8 HST2 HS6
    go_upto_region 20 with fail
    rw [HWw8.out.1, HWw8.out.2]
    clear HWw8
    go_wp2_with fail
    refine HMK.out.mono ?_
    rintro e w9 ⟨rfl, k9⟩
    obtain ⟨w10, hww10⟩ : ∃ x, w9.alloc (.cells #[.int .i64 f'.m.s, .int .i64 f'.m.n, .int .i64 f'.m.g, .int .i64 f'.m.o, .int .i64 f'.m.ms, .int .i64 f'.m.gn, .int .i64 f'.m.ct, .int .i64 f'.m.tl, .int .i64 f'.m.lg] 37) = x := ⟨_, rfl⟩
    obtain ⟨A5, hAA5⟩ : ∃ A, w9.heap.size = A := ⟨_, rfl⟩
    have kw10 : Below w9.heap.size w9 w10 := by rw [← hww10]; exact (Below.refl _ _).alloc (Nat.le_refl _) _
    have HWw10 : Hid (w9.alloc (.cells #[.int .i64 f'.m.s, .int .i64 f'.m.n, .int .i64 f'.m.g, .int .i64 f'.m.o, .int .i64 f'.m.ms, .int .i64 f'.m.gn, .int .i64 f'.m.ct, .int .i64 f'.m.tl, .int .i64 f'.m.lg] 37) = w10 ∧ w9.heap.size = A5) := ⟨hww10, hAA5⟩
    have b10 : MkBx w10 A5 f'.m := by rw [← hww10, ← hAA5]; exact heap_alloc_new w9 _
    have k810 : Below w8.heap.size w8 w10 := below_step k9 kw10
    have h3 := HS8.out.2.2.1.later k810
    obtain ⟨_, _, _, _, p4, p5, p6, p7, p8⟩ := h3.cells
    have HB10 : Hid (Below w8.heap.size w8 w10 ∧ MkBx w10 A5 f'.m) := ⟨k810, b10⟩
    clear h3 k9 hww10 hAA5 kw10 b10 k810 HMK
    go_upto_region 21 with fail
    rw [HWw10.out.1, HWw10.out.2]
    clear HWw10
    obtain ⟨w11, hww11⟩ : ∃ x, w10.alloc (.cells #[.int .i64 f.m.ms, .int .i64 f.m.gn, .int .i64 f.m.ct, .int .i64 f.m.tl, .int .i64 f.m.lg] 35) = x := ⟨_, rfl⟩
    obtain ⟨A6, hAA6⟩ : ∃ A, w10.heap.size = A := ⟨_, rfl⟩
    have kw11 : Below w10.heap.size w10 w11 := by rw [← hww11]; exact (Below.refl _ _).alloc (Nat.le_refl _) _
    have HWw11 : Hid (w10.alloc (.cells #[.int .i64 f.m.ms, .int .i64 f.m.gn, .int .i64 f.m.ct, .int .i64 f.m.tl, .int .i64 f.m.lg] 35) = w11 ∧ w10.heap.size = A6) := ⟨hww11, hAA6⟩
    have b11 : LsBx w11 A6 f.m := by rw [← hww11, ← hAA6]; exact heap_alloc_new w10 _
    have h3 := HB10.out.2.later kw11
    obtain ⟨_, _, _, _, r4, r5, r6, r7, r8⟩ := h3.cells
    have HB11 : Hid (Below w10.heap.size w10 w11 ∧ LsBx w11 A6 f.m) := ⟨kw11, b11⟩
    clear h3 hww11 hAA6 kw11 b11
    go_upto_region 22 with fail
    rw [HWw11.out.1, HWw11.out.2]
    clear HWw11 p4 p5 p6 p7 p8
    obtain ⟨w12, hww12⟩ : ∃ x, w11.alloc (.cells #[.int .i64 f'.m.ms, .int .i64 f'.m.gn, .int .i64 f'.m.ct, .int .i64 f'.m.tl, .int .i64 f'.m.lg] 35) = x := ⟨_, rfl⟩
    obtain ⟨A7, hAA7⟩ : ∃ A, w11.heap.size = A := ⟨_, rfl⟩
    have kw12 : Below w11.heap.size w11 w12 := by rw [← hww12]; exact (Below.refl _ _).alloc (Nat.le_refl _) _
    have HWw12 : Hid (w11.alloc (.cells #[.int .i64 f'.m.ms, .int .i64 f'.m.gn, .int .i64 f'.m.ct, .int .i64 f'.m.tl, .int .i64 f'.m.lg] 35) = w12 ∧ w11.heap.size = A7) := ⟨hww12, hAA7⟩
    have b12 : LsBx w12 A7 f'.m := by rw [← hww12, ← hAA7]; exact heap_alloc_new w11 _
    have k1012 : Below w10.heap.size w10 w12 := below_step HB11.out.1 kw12
    have k812 : Below w8.heap.size w8 w12 := below_step HB10.out.1 k1012
    obtain ⟨p4, p5, p6, p7, p8⟩ := (HB11.out.2.later kw12).cells
    obtain ⟨q4, q5, q6, q7, q8⟩ := b12.cells
    have HS12 : Hid (FoS w Pd Bd F B d f' k (6 * k + j + 1) w12 ∧ MkBx w12 L lm ∧ MkBx w12 A3 f.m ∧ LnBx w12 A4 zeroM ⟨#[]⟩ ∧ MkBx w12 A5 f'.m) := ⟨HS8.out.1.later k812, HS8.out.2.1.later k812, HS8.out.2.2.1.later k812, HS8.out.2.2.2.later k812, HB10.out.2.later k1012⟩
    have hlle : Lle f.m f'.m := by rw [← HF'.out]; exact lle_step HS.out.1.ok
    obtain ⟨e1, e2, e3, e4, e5⟩ := hlle
    have g1 : decide (f'.m.ms < f.m.ms) = false := decide_eq_false (by omega)
    have g2 : decide (f'.m.gn < f.m.gn) = false := decide_eq_false (by omega)
    have g3 : decide (f'.m.ct < f.m.ct) = false := decide_eq_false (by omega)
    have g4 : decide (f'.m.tl < f.m.tl) = false := decide_eq_false (by omega)
    have g5 : decide (f'.m.lg < f.m.lg) = false := decide_eq_false (by omega)
    have HHD : Hid (Calls Try.prog 16 #[.pointer (some ⟨F, 0, none⟩)] w12 fun e v => e = .returned (.int .i64 (f'.k.held.length : Nat)) ∧ v = w12) := HS12.out.1.held
    obtain ⟨hl, hhl⟩ : ∃ hl, f'.k.held.length = hl := ⟨_, rfl⟩
    have hmost : f'.k.most = 1 + l0 := by rw [← HF'.out, (step_same f d).2.2]; exact HS.out.2.2.2.2.2.2
    have g0 : decide (1 + (l0 : Int) < (hl : Int)) = false := decide_eq_false (by have := (Mk.held_le f'.k).1; omega)
    rw [hhl] at HHD
    clear b12 hww12 hAA7 kw12 k1012 k812 HB11 HB10 HS8 hhl e1 e2 e3 e4 e5
    go_upto_region 23 with fail
    rw [HWw12.out.1, HWw12.out.2]
    clear HWw12 r4 r5 r6 r7 r8
    go_wp2_with fail
    refine HHD.out.mono ?_
    rintro e wx ⟨rfl, hwx⟩
    rw [hwx]
    clear hwx HHD
    obtain ⟨z0, z1, z2, z3, z4, z5, z6, z7, z8, z9⟩ := HS12.out.2.2.2.1.cells
    simp only [zeroM] at z0 z1 z2 z3 z4 z5 z6 z7 z8
    have HI2 : Hid (StdI w (1 + l0) L Bd F B k (6 * k + (j + 1)) w12) := by
      obtain ⟨_, _, hnL, hwL, hInv, hBe, hmo⟩ := HS.out
      have hw := HS.out.1.dk.wf
      refine ⟨d, f', Pd, lm, HS12.out.1, HS12.out.2.1, hnL, hwL, ?_, ?_, hmost⟩
      · rw [← HF'.out]; exact inv_step hInv hw
      · rw [← HF'.out]; exact behind_step hBe hInv hw
    clear hmost HS12 HS HF' HL
    go_wp2_with fail
    go_roundw
    case rel => exact ⟨j + 1, by go_num, by omega, HI2⟩
    case measure => simp [Go.RowKit.intOf]; omega
  | some t =>
    obtain ⟨tx, htx⟩ : ∃ tx : ByteArray, ⟨t.toArray⟩ = tx := ⟨_, rfl⟩
    have HTX : Hid ((⟨t.toArray⟩ : ByteArray) = tx) := htx
    have HST2 : Hid (Calls Try.prog 11 #[.pointer (some ⟨F, 0, none⟩), .pointer (some ⟨Bd, 0, none⟩)] w6 fun e v => e = .returned (.tuple #[.agg #[.int .i64 f.m.s, .int .i64 f.m.n, .int .i64 f.m.g, .int .i64 f.m.o, .int .i64 f.m.ms, .int .i64 f.m.gn, .int .i64 f.m.ct, .int .i64 f.m.tl, .int .i64 f.m.lg, .string tx], .bool true]) ∧ FoS w Pd Bd F B d (f.step d) k (6 * k + j + 1) v ∧ Bxs w6 v) := by rw [← HTX.out]; exact HST
    obtain ⟨f', hf'⟩ : ∃ f', f.step d = f' := ⟨_, rfl⟩
    have HF' : Hid (f.step d = f') := hf'
    rw [hf'] at HST2
    clear hf' HST htx
    go_wp2_with fail
    refine HST2.out.mono ?_
    rintro e w7 ⟨rfl, hS7, hbx⟩
    obtain ⟨w8, hww8⟩ : ∃ x, w7.alloc (.cells #[.int .i64 f.m.s, .int .i64 f.m.n, .int .i64 f.m.g, .int .i64 f.m.o, .int .i64 f.m.ms, .int .i64 f.m.gn, .int .i64 f.m.ct, .int .i64 f.m.tl, .int .i64 f.m.lg, .string tx] 42) = x := ⟨_, rfl⟩
    obtain ⟨A4, hAA4⟩ : ∃ A, w7.heap.size = A := ⟨_, rfl⟩
    have kw8 : Below w7.heap.size w7 w8 := by rw [← hww8]; exact (Below.refl _ _).alloc (Nat.le_refl _) _
    have HWw8 : Hid (w7.alloc (.cells #[.int .i64 f.m.s, .int .i64 f.m.n, .int .i64 f.m.g, .int .i64 f.m.o, .int .i64 f.m.ms, .int .i64 f.m.gn, .int .i64 f.m.ct, .int .i64 f.m.tl, .int .i64 f.m.lg, .string tx] 42) = w8 ∧ w7.heap.size = A4) := ⟨hww8, hAA4⟩
    have b8 : LnBx w8 A4 f.m tx := by rw [← hww8, ← hAA4]; exact heap_alloc_new w7 _
    have HS8 : Hid (FoS w Pd Bd F B d f' k (6 * k + j + 1) w8 ∧ MkBx w8 L lm ∧ MkBx w8 A3 f.m ∧ LnBx w8 A4 f.m tx) := ⟨hS7.later kw8, (HS6.out.2.1.kept hbx).later kw8, (HS6.out.2.2.kept hbx).later kw8, b8⟩
    have HMK : Hid (Calls Try.prog 13 #[.pointer (some ⟨F, 0, none⟩)] w8 _) := HS8.out.1.mark
    unfold mrkBox at HMK
    clear hS7 hbx hww8 hAA4 kw8 b8 HST2 HS6
    go_upto_region 20 with fail
    rw [HWw8.out.1, HWw8.out.2]
    clear HWw8
    go_wp2_with fail
    refine HMK.out.mono ?_
    rintro e w9 ⟨rfl, k9⟩
    obtain ⟨w10, hww10⟩ : ∃ x, w9.alloc (.cells #[.int .i64 f'.m.s, .int .i64 f'.m.n, .int .i64 f'.m.g, .int .i64 f'.m.o, .int .i64 f'.m.ms, .int .i64 f'.m.gn, .int .i64 f'.m.ct, .int .i64 f'.m.tl, .int .i64 f'.m.lg] 37) = x := ⟨_, rfl⟩
    obtain ⟨A5, hAA5⟩ : ∃ A, w9.heap.size = A := ⟨_, rfl⟩
    have kw10 : Below w9.heap.size w9 w10 := by rw [← hww10]; exact (Below.refl _ _).alloc (Nat.le_refl _) _
    have HWw10 : Hid (w9.alloc (.cells #[.int .i64 f'.m.s, .int .i64 f'.m.n, .int .i64 f'.m.g, .int .i64 f'.m.o, .int .i64 f'.m.ms, .int .i64 f'.m.gn, .int .i64 f'.m.ct, .int .i64 f'.m.tl, .int .i64 f'.m.lg] 37) = w10 ∧ w9.heap.size = A5) := ⟨hww10, hAA5⟩
    have b10 : MkBx w10 A5 f'.m := by rw [← hww10, ← hAA5]; exact heap_alloc_new w9 _
    have k810 : Below w8.heap.size w8 w10 := below_step k9 kw10
    have h3 := HS8.out.2.2.1.later k810
    obtain ⟨_, _, _, _, p4, p5, p6, p7, p8⟩ := h3.cells
    have HB10 : Hid (Below w8.heap.size w8 w10 ∧ MkBx w10 A5 f'.m) := ⟨k810, b10⟩
    clear h3 k9 hww10 hAA5 kw10 b10 k810 HMK
    go_upto_region 21 with fail
    rw [HWw10.out.1, HWw10.out.2]
    clear HWw10
    obtain ⟨w11, hww11⟩ : ∃ x, w10.alloc (.cells #[.int .i64 f.m.ms, .int .i64 f.m.gn, .int .i64 f.m.ct, .int .i64 f.m.tl, .int .i64 f.m.lg] 35) = x := ⟨_, rfl⟩
    obtain ⟨A6, hAA6⟩ : ∃ A, w10.heap.size = A := ⟨_, rfl⟩
    have kw11 : Below w10.heap.size w10 w11 := by rw [← hww11]; exact (Below.refl _ _).alloc (Nat.le_refl _) _
    have HWw11 : Hid (w10.alloc (.cells #[.int .i64 f.m.ms, .int .i64 f.m.gn, .int .i64 f.m.ct, .int .i64 f.m.tl, .int .i64 f.m.lg] 35) = w11 ∧ w10.heap.size = A6) := ⟨hww11, hAA6⟩
    have b11 : LsBx w11 A6 f.m := by rw [← hww11, ← hAA6]; exact heap_alloc_new w10 _
    have h3 := HB10.out.2.later kw11
    obtain ⟨_, _, _, _, r4, r5, r6, r7, r8⟩ := h3.cells
    have HB11 : Hid (Below w10.heap.size w10 w11 ∧ LsBx w11 A6 f.m) := ⟨kw11, b11⟩
    clear h3 hww11 hAA6 kw11 b11
    go_upto_region 22 with fail
    rw [HWw11.out.1, HWw11.out.2]
    clear HWw11 p4 p5 p6 p7 p8
    obtain ⟨w12, hww12⟩ : ∃ x, w11.alloc (.cells #[.int .i64 f'.m.ms, .int .i64 f'.m.gn, .int .i64 f'.m.ct, .int .i64 f'.m.tl, .int .i64 f'.m.lg] 35) = x := ⟨_, rfl⟩
    obtain ⟨A7, hAA7⟩ : ∃ A, w11.heap.size = A := ⟨_, rfl⟩
    have kw12 : Below w11.heap.size w11 w12 := by rw [← hww12]; exact (Below.refl _ _).alloc (Nat.le_refl _) _
    have HWw12 : Hid (w11.alloc (.cells #[.int .i64 f'.m.ms, .int .i64 f'.m.gn, .int .i64 f'.m.ct, .int .i64 f'.m.tl, .int .i64 f'.m.lg] 35) = w12 ∧ w11.heap.size = A7) := ⟨hww12, hAA7⟩
    have b12 : LsBx w12 A7 f'.m := by rw [← hww12, ← hAA7]; exact heap_alloc_new w11 _
    have k1012 : Below w10.heap.size w10 w12 := below_step HB11.out.1 kw12
    have k812 : Below w8.heap.size w8 w12 := below_step HB10.out.1 k1012
    obtain ⟨p4, p5, p6, p7, p8⟩ := (HB11.out.2.later kw12).cells
    obtain ⟨q4, q5, q6, q7, q8⟩ := b12.cells
    have HS12 : Hid (FoS w Pd Bd F B d f' k (6 * k + j + 1) w12 ∧ MkBx w12 L lm ∧ MkBx w12 A3 f.m ∧ LnBx w12 A4 f.m tx ∧ MkBx w12 A5 f'.m) := ⟨HS8.out.1.later k812, HS8.out.2.1.later k812, HS8.out.2.2.1.later k812, HS8.out.2.2.2.later k812, HB10.out.2.later k1012⟩
    have hlle : Lle f.m f'.m := by rw [← HF'.out]; exact lle_step HS.out.1.ok
    obtain ⟨e1, e2, e3, e4, e5⟩ := hlle
    have g1 : decide (f'.m.ms < f.m.ms) = false := decide_eq_false (by omega)
    have g2 : decide (f'.m.gn < f.m.gn) = false := decide_eq_false (by omega)
    have g3 : decide (f'.m.ct < f.m.ct) = false := decide_eq_false (by omega)
    have g4 : decide (f'.m.tl < f.m.tl) = false := decide_eq_false (by omega)
    have g5 : decide (f'.m.lg < f.m.lg) = false := decide_eq_false (by omega)
    have HHD : Hid (Calls Try.prog 16 #[.pointer (some ⟨F, 0, none⟩)] w12 fun e v => e = .returned (.int .i64 (f'.k.held.length : Nat)) ∧ v = w12) := HS12.out.1.held
    obtain ⟨hl, hhl⟩ : ∃ hl, f'.k.held.length = hl := ⟨_, rfl⟩
    have hmost : f'.k.most = 1 + l0 := by rw [← HF'.out, (step_same f d).2.2]; exact HS.out.2.2.2.2.2.2
    have g0 : decide (1 + (l0 : Int) < (hl : Int)) = false := decide_eq_false (by have := (Mk.held_le f'.k).1; omega)
    rw [hhl] at HHD
    clear b12 hww12 hAA7 kw12 k1012 k812 HB11 HB10 HS8 hhl e1 e2 e3 e4 e5
    go_upto_region 23 with fail
    rw [HWw12.out.1, HWw12.out.2]
    clear HWw12 r4 r5 r6 r7 r8
    go_wp2_with fail
    refine HHD.out.mono ?_
    rintro e wx ⟨rfl, hwx⟩
    rw [hwx]
    clear hwx HHD
    obtain ⟨x, hx1, hx2, hx3, hx4, hx5, hx6, hx7, hx8, hx9, hx10, hx11⟩ := line_stands HS.out.2.2.2.2.1 HS.out.1.dk.wf HL.out
    have htl : t.length ≤ 40 := by have := HS.out.2.2.2.2.2.2; omega
    have HSD : Hid (StandsD d f.m t) := ⟨⟨x, hx1, hx2, hx3, hx5⟩, hx4, by omega, HS.out.1.ok.m⟩
    have htn : tx.size = t.length := by rw [← HTX.out]; show t.toArray.size = _; simp
    rw [HF'.out] at hx7
    have ho := HS.out.1.ok.m.o
    unfold top at ho
    obtain ⟨ho1, ho2⟩ := ho
    have hmlen : f.k.most = 1 + l0 := HS.out.2.2.2.2.2.2
    have goo : (f'.m.o != f.m.o + (tx.size : Nat) + 1) = false := by simp; omega
    have gln : decide (1 + (l0 : Int) < (tx.size : Nat)) = false := decide_eq_false (by omega)
    have htx40 : tx.size ≤ 40 := by omega
    have HAH : Hid (lt3 lm f.m) := HS.out.2.2.2.2.2.1.1 hx11
    have HCS : Hid (Calls Try.prog 17 #[.pointer (some ⟨Bd, 0, none⟩), .agg #[.int .i64 f.m.s, .int .i64 f.m.n, .int .i64 f.m.g, .int .i64 f.m.o, .int .i64 f.m.ms, .int .i64 f.m.gn, .int .i64 f.m.ct, .int .i64 f.m.tl, .int .i64 f.m.lg, .string tx]] w12 fun e w' => e = .returned (.bool true) ∧ Below w12.heap.size w12 w') := by rw [← HTX.out]; exact stands_fn HS12.out.1.dk HSD.out
    obtain ⟨z0, z1, z2, z3, z4, z5, z6, z7, z8, z9⟩ := HS12.out.2.2.2.1.cells
    obtain ⟨y0, y1, y2, y3, y4, y5, y6, y7, y8⟩ := HS12.out.2.2.1.cells
    have HBE : Hid (Behind f' f.m) := by rw [← HF'.out]; exact behind_line HS.out.2.2.2.2.1 HS.out.1.dk.wf HL.out
    have HIN : Hid (Inv f' d) := by rw [← HF'.out]; exact inv_step HS.out.2.2.2.2.1 HS.out.1.dk.wf
    clear hx1 hx2 hx3 hx4 hx5 hx6 hx7 hx8 hx9 hx10 hx11 htl htn hmlen
    go_wp2_with fail
    refine HCS.out.mono ?_
    rintro e w13 ⟨rfl, k13⟩
    have HK13 : Hid (Below w12.heap.size w12 w13) := k13
    have HCA : Hid (Calls Try.prog 18 #[mrkBox lm, mrkBox f.m] w13 _) := ahead_fn HAH.out
    unfold mrkBox at HCA
    have n9 : w13.cell? ⟨A4, 9, none⟩ = some (.string tx) := cell_later k13 _ _ _ z9
    obtain ⟨u0, u1, u2, u3, u4, u5, u6, u7, u8⟩ := (HS12.out.2.1.later k13).cells
    obtain ⟨n0, n1, n2, n3, n4, n5, n6, n7, n8, _⟩ := (HS12.out.2.2.2.1.later k13).cells
    clear k13 HCS z0 z1 z2 z3 z4 z5 z6 z7 z8 z9 y0 y1 y2 y3 y4 y5 y6 y7 y8 p4 p5 p6 p7 p8 q4 q5 q6 q7 q8 g0 g1 g2 g3 g4 g5
    go_wp2_with fail
    refine HCA.out.mono ?_
    rintro e w14 ⟨rfl, k14⟩
    have k1214 : Below w12.heap.size w12 w14 := below_step HK13.out k14
    have hL14 := HS12.out.2.1.later k1214
    have hS14 := HS12.out.1.later k1214
    obtain ⟨z0, z1, z2, z3, z4, z5, z6, z7, z8, z9⟩ := (HS12.out.2.2.2.1.later k1214).cells
    obtain ⟨_, _, _, y3, _⟩ := (HS12.out.2.2.1.later k1214).cells
    obtain ⟨_, _, _, x3, _⟩ := (HS12.out.2.2.2.2.later k1214).cells
    obtain ⟨v0, v1, v2, v3, v4, v5, v6, v7, v8⟩ := hL14.cells
    have hfz : ∀ j, w14.frozen? ⟨L, j, none⟩ = false := fun j => hL14.frozen j
    have HI2 : Hid (StdI w (1 + l0) L Bd F B k (6 * k + (j + 1)) (((((((((w14.setCell ⟨L, 0, none⟩ (.int .i64 f.m.s)).setCell ⟨L, 1, none⟩ (.int .i64 f.m.n)).setCell ⟨L, 2, none⟩ (.int .i64 f.m.g)).setCell ⟨L, 3, none⟩ (.int .i64 f.m.o)).setCell ⟨L, 4, none⟩ (.int .i64 f.m.ms)).setCell ⟨L, 5, none⟩ (.int .i64 f.m.gn)).setCell ⟨L, 6, none⟩ (.int .i64 f.m.ct)).setCell ⟨L, 7, none⟩ (.int .i64 f.m.tl)).setCell ⟨L, 8, none⟩ (.int .i64 f.m.lg))) := by
      obtain ⟨_, _, hnL, hwL, _⟩ := HS.out
      exact ⟨d, f', Pd, f.m, hS14.setM hL14.ty hnL hwL f.m, mk_over hL14 f.m, hnL, hwL, HIN.out, HBE.out, hmost⟩
    clear hmost HS12 HS HF' HL HSD HBE HIN HK13 HCA k14 k1214 hL14 hS14 n0 n1 n2 n3 n4 n5 n6 n7 n8 n9 u0 u1 u2 u3 u4 u5 u6 u7 u8
    go_wp2_with fail
    go_roundw
    case rel => exact ⟨j + 1, by go_num, by omega, HI2⟩
    case measure => simp [Go.RowKit.intOf]; omega
end Go.Proofs.Ytpikepifhnkmkaa
