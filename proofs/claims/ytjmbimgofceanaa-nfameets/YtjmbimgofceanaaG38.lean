/- The program's builder: the state of a method that looks at a node. -/
import Derived.Test.YtjmbimgofceanaaG36
import Derived.Test.YtjmbimgofceanaaG35
namespace Go.Proofs.Ytjmbimgofceanaa
open Go.RowKit
attribute [local go_sem ↓] Go.wp_at_zero Go.wp_at_succ

theorem RowI.fmb {u u' : World} {b0 B Y base : Nat} {V : Value} {l : List Nat} {m : Mk} (h : RowI u base V l) (hm : BB u b0 B Y m) (hf : Fm b0 B u u') : RowI u' base V l :=
  h.keep (fun b _ hlt ht => hf.block b hlt (hm.ne ht (by decide)) (fun _ h2 => absurd (TyB.ne ht h2) (by decide)))
/-- all that w0 had stands but a block -/
def Kp (B : Nat) (w0 u : World) : Prop := w0.heap.size ≤ u.heap.size ∧ ∀ b, b < w0.heap.size → b ≠ B → u.heap[b]? = w0.heap[b]?
structure Sb (w0 : World) (b0 B Y A : Nat) (x : Nd) (w u : World) (m : Mk) : Prop where
  bb : BB u b0 B Y m
  nb : NB u A x
  fm : Fm b0 B w u
  low : Kp B w0 u
  sz : b0 ≤ u.heap.size
  h0 : w0.heap.size ≤ b0
section
variable {w0 : World} {b0 B Y A : Nat} {x : Nd} {w u u' : World} {m m' : Mk}
theorem Sb.later (h : Sb w0 b0 B Y A x w u m) (hb : Below u.heap.size u u') : Sb w0 b0 B Y A x w u' m :=
  ⟨h.bb.later hb, h.nb.later hb, h.fm.later hb, ⟨Nat.le_trans h.low.1 hb.size, fun b hlt hne => (hb.block b (Nat.lt_of_lt_of_le hlt h.low.1)).trans (h.low.2 b hlt hne)⟩, Nat.le_trans h.sz hb.size, h.h0⟩
theorem Sb.call (h : Sb w0 b0 B Y A x w u m) (hm : BB u' b0 B Y m') (hf : Fm b0 B u u') : Sb w0 b0 B Y A x w u' m' :=
  ⟨hm, hf.keep h.nb (h.bb.ne ⟨_, _, h.nb⟩ (by decide)) (by decide), h.fm.trans hf, ⟨Nat.le_trans h.low.1 hf.size, fun b hlt hne => (hf.block b (Nat.lt_of_lt_of_le hlt h.low.1) hne (fun h2 => absurd h.h0 (by omega))).trans (h.low.2 b hlt hne)⟩, Nat.le_trans h.sz hf.size, h.h0⟩
theorem Sb.own (h : Sb w0 b0 B Y A x w u m) {r : Option Nat} (hg : u.grownBy u' r) (hr : ∀ k, r = some k → w.heap.size ≤ k ∧ TyB u 3 k) (hw : b0 ≤ w.heap.size) : Sb w0 b0 B Y A x w u' m := by
  refine ⟨h.bb.grown hg (fun k hk t ht => TyB.ne ht (hr k hk).2), (hg.block A h.nb.lt (fun e => absurd (TyB.ne (hr A e.symm).2 ⟨_, _, h.nb⟩) (by decide))).trans h.nb, ⟨hg.os.trans h.fm.os, hg.tape.trans h.fm.tape, hg.output.trans h.fm.output, Nat.le_trans h.fm.size hg.size, fun k hk hne ht => ?_⟩, ?_, Nat.le_trans h.sz hg.size, h.h0⟩
  · exact (hg.block k (Nat.lt_of_lt_of_le hk h.fm.size) (fun e => by have := (hr k e.symm).1; omega)).trans (h.fm.block k hk hne ht)
  · exact ⟨Nat.le_trans h.low.1 hg.size, fun k hk hne => (hg.block k (Nat.lt_of_lt_of_le hk h.low.1) (fun e => by have := (hr k e.symm).1; have := h.h0; omega)).trans (h.low.2 k hk hne)⟩
theorem sb_start (w0 : World) (x : Nd) (hm : BB w b0 B Y m) (hlow : Kp B w0 w) (hb : b0 ≤ w.heap.size) (h0 : w0.heap.size ≤ b0) : Sb w0 b0 B Y w.heap.size x w (w.alloc (.cells #[.int .i64 x.k, .int .u64 (Oct.word x.s 0 : Nat), .int .u64 (Oct.word x.s 1 : Nat), .int .u64 (Oct.word x.s 2 : Nat), .int .u64 (Oct.word x.s 3 : Nat), .slice x.a x.n x.c, .int .i64 x.mn, .int .i64 x.mx] 30)) m := by
  have kk : Below w.heap.size w (w.alloc (.cells #[.int .i64 x.k, .int .u64 (Oct.word x.s 0 : Nat), .int .u64 (Oct.word x.s 1 : Nat), .int .u64 (Oct.word x.s 2 : Nat), .int .u64 (Oct.word x.s 3 : Nat), .slice x.a x.n x.c, .int .i64 x.mn, .int .i64 x.mx] 30)) := (Below.refl _ _).alloc (Nat.le_refl _) _
  exact ⟨hm.later kk, nb_new w x, Fm.of_below b0 B kk, ⟨Nat.le_trans hlow.1 kk.size, fun b hlt hne => (kk.block b (Nat.lt_of_lt_of_le hlt hlow.1)).trans (hlow.2 b hlt hne)⟩, Nat.le_trans hb kk.size, h0⟩
end
/-- WHAT A WAY OF 29ING SAYS OF A NODE IN MEMORY. -/
def WayV (f : FuncId) (w0 : World) (B : Nat) (t : Tn) (v : Nd) : Prop := ∀ (w : World) (b0 Y : Nat) (m : Mk) (a : Nat), Kp B w0 w → w0.heap.size ≤ b0 → b0 ≤ w.heap.size → BB w b0 B Y m → (lay t m a).1.S ≤ 1000000 → (lay t m a).1.es.length ≤ 1000000 →
  Calls Try.prog f #[.pointer (some ⟨B, 0, none⟩), v.val, .int .i64 (a : Nat)] w fun e w' => e = .returned (.int .i64 ((lay t m a).2 : Nat)) ∧ BB w' b0 B Y (lay t m a).1 ∧ Fm b0 B w w'
abbrev LayV (w0 : World) (B : Nat) (t : Tn) (v : Nd) : Prop := WayV 29 w0 B t v
end Go.Proofs.Ytjmbimgofceanaa

/- The program's lay: the way of the node's kind. -/
namespace Go.Proofs.Ytjmbimgofceanaa
open Go.RowKit
attribute [local go_sem ↓] Go.wp_at_zero Go.wp_at_succ

section
variable {o : Oper} {a : Act} {w w' : World} {r : Value → Prop} {Q : Exit → Act → World → Prop}
attribute [local go_sem] Oper.semAt_some
set_option maxRecDepth 20000 in
theorem og_ways {p B : Nat} (ho : o.op = .fieldAddr 66 (.tmp p) 0) (hx : T a p = .pointer (some ⟨B, 0, none⟩)) (hr : r (.pointer (some ⟨B, 0, none⟩))) : o.wp Try.prog a w (Got r o a w) Q := by
  obtain ⟨dst, op, type, pos, after, guard⟩ := o
  simp only at ho
  subst ho
  refine og_value (v := .pointer (some ⟨B, 0, none⟩)) ?_ hr
  simp [execOp, Act.eval, hx, go_sem]
set_option maxRecDepth 20000 in
theorem og_kind {p B : Nat} (ho : o.op = .fieldAddr 30 (.tmp p) 0) (hx : T a p = .pointer (some ⟨B, 0, none⟩)) (hr : r (.pointer (some ⟨B, 0, none⟩))) : o.wp Try.prog a w (Got r o a w) Q := by
  obtain ⟨dst, op, type, pos, after, guard⟩ := o
  simp only at ho
  subst ho
  refine og_value (v := .pointer (some ⟨B, 0, none⟩)) ?_ hr
  simp [execOp, Act.eval, hx, go_sem]
theorem og_load63 {p : Nat} {ad : Addr} {v : Value} (ho : o.op = .load 63 (.tmp p)) (hx : T a p = .pointer (some ad)) (hc : w.cell? ad = some v) (hr : r v) : o.wp Try.prog a w (Got r o a w) Q := by
  obtain ⟨dst, op, type, pos, after, guard⟩ := o
  simp only at ho
  subst ho
  refine og_value (v := v) ?_ hr
  simp [execOp, Act.eval, hx, go_sem, hc]
theorem og_load89 {p : Nat} {ad : Addr} {v : Value} (ho : o.op = .load 89 (.tmp p)) (hx : T a p = .pointer (some ad)) (hc : w.cell? ad = some v) (hr : r v) : o.wp Try.prog a w (Got r o a w) Q := by
  obtain ⟨dst, op, type, pos, after, guard⟩ := o
  simp only at ho
  subst ho
  refine og_value (v := v) ?_ hr
  simp [execOp, Act.eval, hx, go_sem, hc]
set_option maxRecDepth 20000 in
theorem og_index63 {p q Y k : Nat} (ho : o.op = .indexAddr 63 (.tmp p) (.tmp q)) (hx : T a p = .slice (some ⟨Y, 0, none⟩) 8 8) (hy : T a q = .int .i64 (k : Nat)) (hk : k < 8) (hr : r (.pointer (some ⟨Y, k, none⟩))) : o.wp Try.prog a w (Got r o a w) Q := by
  obtain ⟨dst, op, type, pos, after, guard⟩ := o
  simp only at ho
  subst ho
  refine og_value (v := .pointer (some ⟨Y, k, none⟩)) ?_ hr
  have hk' : (k : Int) < 8 := by omega
  simp [execOp, Act.eval, hx, hy, go_sem, hk']
theorem oc_callv {K : Act → World → Prop} {p q1 q2 q3 f : Nat} {ts : Array TypeId} {v1 v2 v3 : Value} (ho : o.op = .call { callee := .value (.tmp p), args := #[.tmp q1, .tmp q2, .tmp q3], argTypes := ts }) (hf : Enters f) (hx : T a p = .func (.func f) #[] #[]) (h1 : T a q1 = v1) (h2 : T a q2 = v2) (h3 : T a q3 = v3) (hc : Calls Try.prog f #[v1, v2, v3] w fun e w' => ∃ v, e = .returned v ∧ K (a.put o.dst v) w') : o.wp Try.prog a w K Q := by
  obtain ⟨dst, op, type, pos, after, guard⟩ := o
  simp only at ho
  subst ho
  refine oc_enter (args := #[v1, v2, v3]) ?_ hc
  simp [Act.eval, hx, h1, h2, h3, go_sem]
  exact hf _ _
end
/-- what each operation of lay's region answers -/
def R29 (B Y A k f a : Nat) (v : Nd) : Nat → Value → Prop
  | 0, x => x = .pointer (some ⟨B, 0, none⟩)
  | 1, x => x = .pointer (some ⟨B, 0, none⟩)
  | 2, x => x = .pointer (some ⟨B, 0, none⟩)
  | 3, x => x = .slice (some ⟨Y, 0, none⟩) 8 8
  | 4, x => x = .pointer (some ⟨A, 0, none⟩)
  | 5, x => x = .int .i64 (k : Nat)
  | 6, x => x = .pointer (some ⟨Y, k, none⟩)
  | 7, x => x = .func (.func f) #[] #[]
  | 8, x => x = .pointer (some ⟨B, 0, none⟩)
  | 9, x => x = v.val
  | 10, x => x = .int .i64 (a : Nat)
  | _, _ => True
def Rd29 (B Y A k f : Nat) (v : Nd) (u : World) : Prop := u.cell? ⟨B, 0, none⟩ = some (.slice (some ⟨Y, 0, none⟩) 8 8) ∧ NB u A v ∧ u.cell? ⟨Y, k, none⟩ = some (.func (.func f) #[] #[])
def S29 (B A a : Nat) (W : World) (P : World → Prop) (res : Value) (j : Nat) (x : Act) (u : World) : Prop :=
  x.tmps.size = 19 ∧ x.defers = [] ∧ T x 0 = .pointer (some ⟨B, 0, none⟩) ∧ T x 2 = .int .i64 (a : Nat) ∧ T x 4 = .pointer (some ⟨A, 0, none⟩) ∧
    (if j = 11 then u = W.drew else if j = 12 then T x 18 = res ∧ P u else T x 6 = res ∧ P u)
theorem put_T {x : Act} {d e : Nat} {v : Value} (h : d ≠ e) : T (x.put (some d) v) e = T x e := put_other h
theorem put_T' {x : Act} {d : Nat} {v : Value} (h : d < x.tmps.size) : T (x.put (some d) v) d = v := put_same h
theorem put_size {x : Act} {d : Nat} {v : Value} : (x.put (some d) v).tmps.size = x.tmps.size := by simp [Act.put]
theorem S29.put {B A a : Nat} {W : World} {P : World → Prop} {res : Value} {j : Nat} {x : Act} {u : World} (h : S29 B A a W P res j x u) {d : Nat} (hd : 7 ≤ d) (hd2 : d < 18) (v : Value) : S29 B A a W P res j (x.put (some d) v) u := by
  obtain ⟨h1, h2, h3, h4, h5, h6⟩ := h
  refine ⟨by rw [put_size, h1], by simp [Act.put, h2], by rw [put_T (by omega), h3], by rw [put_T (by omega), h4], by rw [put_T (by omega), h5], ?_⟩
  rw [put_T (by omega), put_T (by omega)]
  exact h6
set_option maxRecDepth 100000 in
set_option maxHeartbeats 1000000 in
theorem reg29 {act : Act} {W : World} {B Y A k f a : Nat} {v : Nd} {P : World → Prop} {res : Value} {Q : Exit → Act → World → Prop} (hd : act.defers = []) (hT0 : T act 0 = .pointer (some ⟨B, 0, none⟩)) (hT2 : T act 2 = .int .i64 (a : Nat)) (hT4 : T act 4 = .pointer (some ⟨A, 0, none⟩)) (hsz : act.tmps.size = 19)
    (hRd : Rd29 B Y A k f v W) (hPR : ∀ u, P u → Rd29 B Y A k f v u) (hk : v.k = (k : Nat)) (hk8 : k < 8) (hf : Enters f)
    (hC : Calls Try.prog f #[.pointer (some ⟨B, 0, none⟩), v.val, .int .i64 (a : Nat)] W.drew fun e w' => e = .returned res ∧ P w')
    (K : ∀ a' W', a'.defers = [] → T a' 6 = res → P W' → Q .normal a' W') : (Code.region 1 (opsOf Try.f29 1) true).wp Try.prog Q act W := by
  refine wp_region_chain (by kernel_rfl) 11 13 (by kernel_rfl) (by decide) (fun i => 7 + i) (R29 B Y A k f a v) (S29 B A a W P res) ?put ?sz ?inj (by kernel_rfl) ?duty ?fin ⟨hsz, hd, hT0, hT2, hT4, by rw [if_pos rfl]⟩
  case put =>
    intro j x u i y hi h
    exact h.put (by omega) (by omega) y
  case sz =>
    intro j x u i hi h
    rw [h.1]
    show 7 + i < 19
    omega
  case inj =>
    intro i j _ _ h
    exact Nat.add_left_cancel h
  case fin =>
    intro x u h _
    obtain ⟨h1, h2, h3, h4, h5, h6⟩ := h
    rw [if_neg (by decide), if_neg (by decide)] at h6
    exact K x u h2 h6.1 h6.2
  case duty =>
    have hrd : ∀ {j : Nat} {x : Act} {u : World}, S29 B A a W P res j x u → Rd29 B Y A k f v u := fun {j x u} h => by
      have h6 := h.2.2.2.2.2
      by_cases h11 : j = 11
      · rw [if_pos h11] at h6
        subst h6
        exact hRd
      · rw [if_neg h11] at h6
        by_cases h12 : j = 12
        · rw [if_pos h12] at h6
          exact hPR u h6.2
        · rw [if_neg h12] at h6
          exact hPR u h6.2
    refine ⟨⟨rfl, by simp, fun _ => ⟨rfl, fun j x u hS hE Q => ?s0⟩, fun h => absurd h (by decide)⟩, ⟨rfl, by simp, fun _ => ⟨rfl, fun j x u hS hE Q => ?s1⟩, fun h => absurd h (by decide)⟩, ⟨rfl, by simp, fun _ => ⟨rfl, fun j x u hS hE Q => ?s2⟩, fun h => absurd h (by decide)⟩, ⟨rfl, by simp, fun _ => ⟨rfl, fun j x u hS hE Q => ?s3⟩, fun h => absurd h (by decide)⟩, ⟨rfl, by simp, fun _ => ⟨rfl, fun j x u hS hE Q => ?s4⟩, fun h => absurd h (by decide)⟩, ⟨rfl, by simp, fun _ => ⟨rfl, fun j x u hS hE Q => ?s5⟩, fun h => absurd h (by decide)⟩, ⟨rfl, by simp, fun _ => ⟨rfl, fun j x u hS hE Q => ?s6⟩, fun h => absurd h (by decide)⟩, ⟨rfl, by simp, fun _ => ⟨rfl, fun j x u hS hE Q => ?s7⟩, fun h => absurd h (by decide)⟩, ⟨rfl, by simp, fun _ => ⟨rfl, fun j x u hS hE Q => ?s8⟩, fun h => absurd h (by decide)⟩, ⟨rfl, by simp, fun _ => ⟨rfl, fun j x u hS hE Q => ?s9⟩, fun h => absurd h (by decide)⟩, ⟨rfl, by simp, fun _ => ⟨rfl, fun j x u hS hE Q => ?s10⟩, fun h => absurd h (by decide)⟩, ⟨rfl, by simp, fun h => absurd h (by decide), fun _ x u hS hE => ?c11⟩, ⟨rfl, by simp, fun h => absurd h (by decide), fun _ x u hS hE => ?c12⟩, trivial⟩
    case s0 => exact og_move rfl hS.2.2.1 rfl
    case s1 => exact og_nil rfl (hE ⟨0, .data⟩ (by simp) rfl) rfl
    case s2 => exact og_ways rfl (hE ⟨1, .data⟩ (by simp) rfl) rfl
    case s3 => exact og_load63 rfl (hE ⟨2, .data⟩ (by simp) rfl) (hrd hS).1 rfl
    case s4 => exact og_kind rfl hS.2.2.2.2.1 rfl
    case s5 => exact og_load3 rfl (hE ⟨4, .data⟩ (by simp) rfl) (hrd hS).2.1.cells.1 (by show _ = _; rw [hk])
    case s6 => exact og_index63 rfl (hE ⟨3, .data⟩ (by simp) rfl) (hE ⟨5, .data⟩ (by simp) rfl) hk8 rfl
    case s7 => exact og_load89 rfl (hE ⟨6, .data⟩ (by simp) rfl) (hrd hS).2.2 rfl
    case s8 => exact og_move rfl hS.2.2.1 rfl
    case s9 => exact og_node rfl hS.2.2.2.2.1 (hrd hS).2.1 rfl
    case s10 => exact og_move rfl hS.2.2.2.1 rfl
    case c11 =>
      obtain ⟨h1, h2, h3, h4, h5, h6⟩ := hS
      rw [if_pos rfl] at h6
      subst h6
      refine oc_callv rfl hf (hE ⟨7, .data⟩ (by simp) (by decide) rfl) (hE ⟨8, .data⟩ (by simp) (by decide) rfl) (hE ⟨9, .data⟩ (by simp) (by decide) rfl) (hE ⟨10, .data⟩ (by simp) (by decide) rfl) (hC.mono ?_)
      rintro e w' ⟨rfl, hP⟩
      refine ⟨res, rfl, ⟨by rw [put_size, h1], by simp [Act.put, h2], by rw [put_T (by decide), h3], by rw [put_T (by decide), h4], by rw [put_T (by decide), h5], ?_⟩, fun j hj => put_T (by omega)⟩
      rw [if_neg (by decide), if_pos rfl]
      exact ⟨put_T' (by omega), hP⟩
    case c12 =>
      obtain ⟨h1, h2, h3, h4, h5, h6⟩ := hS
      rw [if_neg (by decide), if_pos rfl] at h6
      refine oc_assign rfl h6.1 ⟨⟨by rw [put_size, h1], by simp [Act.put, h2], by rw [put_T (by decide), h3], by rw [put_T (by decide), h4], by rw [put_T (by decide), h5], ?_⟩, fun j hj => put_T (by omega)⟩
      rw [if_neg (by decide), if_neg (by decide)]
      exact ⟨put_T' (by omega), h6.2⟩
set_option maxRecDepth 20000 in
set_option maxHeartbeats 4000000 in
theorem disp_any {w0 : World} {B : Nat} {t : Tn} {v : Nd} {k f : Nat} (hk : v.k = (k : Nat)) (hk8 : k < 8) (hf : Enters f) (hfc : ∀ u Y, WB u Y → u.cell? ⟨Y, k, none⟩ = some (.func (.func f) #[] #[])) (hW : WayV f w0 B t v) : LayV w0 B t v := by
  intro w b0 Y m a hlow h0 hb hbb hS hE
  have HSB : Hid (Sb w0 b0 B Y w.heap.size v w (w.alloc (.cells #[.int .i64 v.k, .int .u64 (Oct.word v.s 0 : Nat), .int .u64 (Oct.word v.s 1 : Nat), .int .u64 (Oct.word v.s 2 : Nat), .int .u64 (Oct.word v.s 3 : Nat), .slice v.a v.n v.c, .int .i64 v.mn, .int .i64 v.mx] 30)) m) := sb_start w0 v hbb hlow hb h0
  obtain ⟨w1, hw1⟩ : ∃ w1, w.alloc (.cells #[.int .i64 v.k, .int .u64 (Oct.word v.s 0 : Nat), .int .u64 (Oct.word v.s 1 : Nat), .int .u64 (Oct.word v.s 2 : Nat), .int .u64 (Oct.word v.s 3 : Nat), .slice v.a v.n v.c, .int .i64 v.mn, .int .i64 v.mx] 30) = w1 := ⟨_, rfl⟩
  rw [hw1] at HSB
  obtain ⟨A, hA⟩ : ∃ A, w.heap.size = A := ⟨_, rfl⟩
  rw [hA] at HSB
  have HW1 : Hid (w.alloc (.cells #[.int .i64 v.k, .int .u64 (Oct.word v.s 0 : Nat), .int .u64 (Oct.word v.s 1 : Nat), .int .u64 (Oct.word v.s 2 : Nat), .int .u64 (Oct.word v.s 3 : Nat), .slice v.a v.n v.c, .int .i64 v.mn, .int .i64 v.mx] 30) = w1) := hw1
  have HAA : Hid (w.heap.size = A) := hA
  have hSd : Sb w0 b0 B Y A v w w1.drew m := HSB.out.later ((Below.refl _ _).drew)
  have HC : Hid (Calls Try.prog f #[.pointer (some ⟨B, 0, none⟩), v.val, .int .i64 (a : Nat)] w1.drew _) := hW w1.drew b0 Y m a hSd.low h0 hSd.sz hSd.bb hS hE
  have HKK : Hid (v.k = (k : Nat) ∧ k < 8 ∧ Enters f) := ⟨hk, hk8, hf⟩
  have HFC : Hid (∀ u Y, WB u Y → u.cell? ⟨Y, k, none⟩ = some (.func (.func f) #[] #[])) := hfc
  have HSD : Hid (Sb w0 b0 B Y A v w w1.drew m) := hSd
  clear hw1 hA hb h0 hlow hbb hSd hS hE hk hk8 hf hfc hW
  obtain ⟨R, hR⟩ : ∃ R, lay t m a = R := ⟨_, rfl⟩
  rw [hR] at HC ⊢
  clear hR
  unfold Nd.val
  go_enter Try.func29, Try.ntmps29
  go_upto_region 1 with fail
  rw [HW1.out, HAA.out]
  clear HW1
  have hrd : ∀ (u : World) (m' : Mk), BB u b0 B Y m' → NB u A v → Rd29 B Y A k f v u := fun u m' h1 h2 => by
    obtain ⟨_, _, c0, _, _⟩ := h1.cells
    exact ⟨c0, h2, HFC.out u Y h1.1⟩
  refine reg29 (B := B) (Y := Y) (A := A) (k := k) (f := f) (a := a) (v := v) (P := fun u => BB u b0 B Y R.1 ∧ Fm b0 B w u ∧ NB u A v) (res := .int .i64 (R.2 : Nat)) rfl rfl rfl rfl rfl (hrd w1 m HSB.out.bb HSB.out.nb) (fun u h => hrd u R.1 h.1 h.2.2) HKK.out.1 HKK.out.2.1 HKK.out.2.2 (HC.out.mono ?_) ?_
  · rintro e w' ⟨rfl, h1, h2⟩
    have h3 := HSD.out.call h1 h2
    exact ⟨rfl, h3.bb, h3.fm, h3.nb⟩
  · rintro a' W' hd h6 ⟨h1, h2, _⟩
    go_wp2
    exact bodyPost_ret (v := .int .i64 (R.2 : Nat)) (by simp [results, Try.results29, go_sem, h6]) hd ⟨rfl, h1, h2⟩
theorem ent45 : Enters 45 := fun args w => by simp [go_sem]
theorem ent46 : Enters 46 := fun args w => by simp [go_sem]
theorem ent47 : Enters 47 := fun args w => by simp [go_sem]
theorem ent48 : Enters 48 := fun args w => by simp [go_sem]
theorem ent49 : Enters 49 := fun args w => by simp [go_sem]
theorem ent50 : Enters 50 := fun args w => by simp [go_sem]
theorem ent51 : Enters 51 := fun args w => by simp [go_sem]
end Go.Proofs.Ytjmbimgofceanaa

/- The same, where an operation that only reads must come ahead of one of the chain. -/
namespace Go.Proofs.Ytjmbimgofceanaa
open Go Go.RowKit

section
variable {P : Program} {ops : Array Oper} {Q : Exit → Act → World → Prop}
/-- operation lim i of the chain waits for operation i -/
def held (ops : Array Oper) (n : Nat) (lim : Nat → Nat) : Bool := (List.range n).all fun i => decide (n ≤ lim i) && decide (lim i < ops.size) && (List.range ops.size).any fun j => decide (i < j) && (decide (j = lim i) || (decide (j < n) && decide (lim j ≤ lim i))) && match ops[j]? with
  | some o => o.after.any fun e => e.on == i && Region.binds .any e
  | none => false
theorem held_at {n : Nat} {lim : Nat → Nat} (h : held ops n lim = true) {i : Nat} (hi : i < n) : n ≤ lim i ∧ lim i < ops.size ∧ ∃ j o e, i < j ∧ (j = lim i ∨ j < n ∧ lim j ≤ lim i) ∧ ops[j]? = some o ∧ e ∈ o.after ∧ e.on = i ∧ Region.binds .any e = true := by
  have h1 := List.all_eq_true.1 h i (List.mem_range.2 hi)
  rw [Bool.and_eq_true, Bool.and_eq_true] at h1
  obtain ⟨⟨h2, h3⟩, h4⟩ := h1
  refine ⟨of_decide_eq_true h2, of_decide_eq_true h3, ?_⟩
  obtain ⟨j, _, h5⟩ := List.any_eq_true.1 h4
  rw [Bool.and_eq_true, Bool.and_eq_true, Bool.or_eq_true, Bool.and_eq_true] at h5
  obtain ⟨⟨h6, h7⟩, h8⟩ := h5
  cases ho : ops[j]? with
  | none => rw [ho] at h8; cases h8
  | some o =>
    rw [ho] at h8
    have h8 : (o.after.any fun e => e.on == i && Region.binds .any e) = true := h8
    rw [Array.any_eq_true'] at h8
    obtain ⟨x, hx, h9⟩ := h8
    rw [Bool.and_eq_true] at h9
    refine ⟨j, o, x, of_decide_eq_true h6, ?_, ho, hx, eq_of_beq h9.1, h9.2⟩
    rcases h7 with h7 | ⟨h7, h7'⟩
    · exact Or.inl (of_decide_eq_true h7)
    · exact Or.inr ⟨of_decide_eq_true h7, of_decide_eq_true h7'⟩
theorem held_all {n : Nat} {lim : Nat → Nat} (h : held ops n lim = true) {L : Nat → Bool} (hcl : ∀ i o e, ops[i]? = some o → e ∈ o.after → Region.binds .any e = true → L i = true → L e.on = true) (hlow : ∀ j j', n ≤ j → j ≤ j' → j' < ops.size → L j' = true → L j = true) : ∀ (z i : Nat), i < n → n - i ≤ z → L (lim i) = true → L i = true
  | 0, i, hi, hz, _ => by omega
  | z + 1, i, hi, hz, hL => by
    obtain ⟨h1, h2, j, o, e, hij, hj, ho, he, hon, hb⟩ := held_at h hi
    have hLj : L j = true := by
      rcases hj with rfl | ⟨hjn, hjl⟩
      · exact hL
      · exact held_all h hcl hlow z j hjn (by omega) (hlow (lim j) (lim i) (held_at h hjn).1 hjl h2 hL)
    have := hcl j o e ho he hb hLj
    rwa [hon] at this
theorem wp_region_chain2 {id : Nat} {a : Act} {w0 : World} (hm : P.follows .mixedOrders = true) (n m : Nat) (hn : ops.size = m) (hnm : n ≤ m) (D : Nat → Nat) (R : Nat → Value → Prop) (S : Nat → Act → World → Prop)
    (hput : ∀ k a w i v, i < n → S k a w → S k (a.put (some (D i)) v) w)
    (hsz : ∀ k a w i, i < n → S k a w → D i < a.tmps.size)
    (hinj : ∀ i j, i < n → j < n → D i = D j → i = j)
    (hlink : linked ops n = true) (lim : Nat → Nat) (hheld : held ops n lim = true)
    (hduty : AllFrom (fun i o => o.guard = none ∧ (∀ e ∈ o.after, e.on < i) ∧
        (i < n → o.dst = some (D i) ∧ ∀ k a w, n ≤ k → k ≤ lim i → S k a w → (∀ e ∈ o.after, Region.binds .any e = true → R e.on (T a (D e.on))) → ∀ Q, o.wp P a w (Got (R i) o a w) Q) ∧
        (n ≤ i → ∀ a w, S i a w → (∀ e ∈ o.after, e.on < n → Region.binds .any e = true → R e.on (T a (D e.on))) → o.wp P a w (fun a' w' => S (i + 1) a' w' ∧ ∀ j, j < n → T a' (D j) = T a (D j)) Q)) 0 ops.toList)
    (hend : ∀ a w, S m a w → (∀ i, i < n → R i (T a (D i))) → Q .normal a w)
    (h0 : S n a w0.drew) : (Code.region id ops true).wp P Q a w0 := by
  have hd := fun i o (ho : ops[i]? = some o) => by
    have := allFrom_at hduty i o (by simpa using ho)
    rw [Nat.zero_add] at this
    exact this
  refine wp_region_inv hm (fun L a w => (∀ i o e, ops[i]? = some o → e ∈ o.after → Region.binds .any e = true → L i = true → L e.on = true) ∧ ∃ k, n ≤ k ∧ k ≤ m ∧ (∀ j, n ≤ j → j < m → (L j = true ↔ j < k)) ∧ S k a w ∧ ∀ i, i < n → L i = true → R i (T a (D i))) ?wf ?step ?fin ?zero
  case wf =>
    intro i o e ho he _
    exact (hd i o ho).2.1 e he
  case zero =>
    intro L hL
    refine ⟨fun i o e ho _ _ h => (by rw [hL i (Array.getElem?_eq_some_iff.1 ho).1] at h; cases h), n, Nat.le_refl _, hnm, fun j h1 h2 => ?_, h0, fun i hi h => ?_⟩
    · rw [hL j (by omega)]
      constructor
      · intro h; cases h
      · intro h; omega
    · rw [hL i (by omega)] at h; cases h
  case fin =>
    rintro L a w hL ⟨_, k, h1, h2, h3, hS, hR⟩
    have hk : k = m := by
      by_cases e : k = m
      · exact e
      · have := (h3 k h1 (by omega)).1 (hL k (by omega))
        omega
    subst hk
    exact hend a w hS (fun i hi => hR i hi (hL i (by omega)))
  case step =>
    intro i o ho
    have hi := (Array.getElem?_eq_some_iff.1 ho).1
    obtain ⟨hg, hlt, hp, hc⟩ := hd i o ho
    refine ⟨hg, ?_⟩
    rintro L a w ⟨hcl, k, h1, h2, h3, hS, hR⟩ hLi hE
    have hcl2 : ∀ j p e, ops[j]? = some p → e ∈ p.after → Region.binds .any e = true → more L i j = true → more L i e.on = true := fun j p e hp9 he hb hj => by
      unfold more at hj ⊢
      by_cases hji : j = i
      · subst hji
        rw [ho] at hp9
        cases hp9
        simp [hE e he hb]
      · rw [if_neg hji] at hj
        simp [hcl j p e hp9 he hb hj]
    by_cases hl : i < n
    · obtain ⟨hdst, hst⟩ := hp hl
      have hkl : k ≤ lim i := by
        by_cases hk : k ≤ lim i
        · exact hk
        · have h5 := held_all hheld hcl (fun j j' hj hj' hlt h => by
            rw [hn] at hlt
            exact (h3 j hj (by omega)).2 (by have := (h3 j' (by omega) hlt).1 h; omega)) (n - i) i hl (by omega)
          obtain ⟨q1, q2, _⟩ := held_at hheld hl
          have := h5 ((h3 (lim i) q1 (by omega)).2 (by omega))
          rw [this] at hLi
          cases hLi
      refine Oper.wp_mono ?_ (hst k a w h1 hkl hS (fun e he hb => hR e.on (by have := hlt e he; omega) (hE e he hb)) Q)
      rintro a' w' ⟨v, rfl, rfl, hr⟩
      rw [hdst]
      refine ⟨hcl2, k, h1, h2, fun j hj hj2 => ?_, hput k a w' i v hl hS, fun j hj hmj => ?_⟩
      · rw [← h3 j hj hj2]
        unfold more
        rw [if_neg (by omega)]
      · by_cases hji : j = i
        · subst hji
          unfold T
          rw [put_same (hsz k a w' j hl hS)]
          exact hr
        · unfold T
          rw [put_other (fun e => hji (hinj i j hl hj e).symm)]
          unfold more at hmj
          rw [if_neg hji] at hmj
          exact hR j hj hmj
    · have hki : k = i := by
        have ha : ¬ i < k := fun h => by rw [(h3 i (by omega) (by omega)).2 h] at hLi; cases hLi
        by_cases e : i = n
        · omega
        · obtain ⟨x, hx, hx1, hx2⟩ := linked_at hlink ho (by omega)
          have := (h3 (i - 1) (by omega) (by omega)).1 (by rw [← hx1]; exact hE x hx hx2)
          omega
      subst hki
      refine Oper.wp_mono ?_ (hc (by omega) a w hS (fun e he hlt hb => hR e.on hlt (hE e he hb)))
      rintro a' w' ⟨hS', hT'⟩
      refine ⟨hcl2, k + 1, by omega, by omega, fun j hj hj2 => ?_, hS', fun j hj hmj => ?_⟩
      · unfold more
        by_cases hjk : j = k
        · rw [if_pos hjk]
          constructor
          · intro _; omega
          · intro _; rfl
        · rw [if_neg hjk, h3 j hj hj2]
          omega
      · unfold more at hmj
        rw [if_neg (by omega)] at hmj
        rw [hT' j hj]
        exact hR j hj hmj
end
end Go.Proofs.Ytjmbimgofceanaa

/- The program's way of alternatives: its drawn region. -/
namespace Go.Proofs.Ytjmbimgofceanaa
open Go.RowKit
attribute [local go_sem ↓] Go.wp_at_zero Go.wp_at_succ

def Fr48 (act a : Act) : Prop := a.tmps.size = 30 ∧ a.defers = act.defers ∧ ∀ k, k ≠ 7 → (k < 17 ∨ 26 ≤ k) → a.tmps[k]? = act.tmps[k]?
theorem Fr48.put {act a : Act} (h : Fr48 act a) {k : Nat} (hd : k = 7 ∨ 17 ≤ k ∧ k < 26) (v : Value) : Fr48 act (a.put (some k) v) := by
  obtain ⟨h1, h2, h3⟩ := h
  refine ⟨by simp [Act.put, h1], by simp [Act.put, h2], fun j hj hj2 => ?_⟩
  simp only [Act.put]
  rw [Array.getElem?_setIfInBounds_ne (by omega)]
  exact h3 j hj hj2
theorem fr48_T {act a : Act} (h : Fr48 act a) {k : Nat} (hk : k ≠ 7) (hk2 : k < 17 ∨ 26 ≤ k) : T a k = T act k := by unfold T; rw [h.2.2 k hk hk2]
theorem fr48_lit {act a : Act} (h : Fr48 act a) (hs : act.tmps.size = 30) : a = ((((((((((act.put (some 7) (T a 7)).put (some 17) (T a 17)).put (some 18) (T a 18)).put (some 19) (T a 19)).put (some 20) (T a 20)).put (some 21) (T a 21)).put (some 22) (T a 22)).put (some 23) (T a 23)).put (some 24) (T a 24)).put (some 25) (T a 25)) := by
  obtain ⟨h1, h2, h3⟩ := h
  obtain ⟨tmps, defers⟩ := a
  simp only at h1 h2 h3
  simp only [Act.put, Act.mk.injEq]
  refine ⟨?_, h2⟩
  apply Array.ext_getElem?
  intro k
  have hT : ∀ j, j < 30 → tmps[j]? = some (T ⟨tmps, defers⟩ j) := fun j hj => by
    have : j < tmps.size := by omega
    simp [T, this]
  by_cases hk : k ≠ 7 ∧ (k < 17 ∨ 26 ≤ k)
  · rw [h3 k hk.1 hk.2, Array.getElem?_setIfInBounds_ne (by omega), Array.getElem?_setIfInBounds_ne (by omega), Array.getElem?_setIfInBounds_ne (by omega), Array.getElem?_setIfInBounds_ne (by omega), Array.getElem?_setIfInBounds_ne (by omega), Array.getElem?_setIfInBounds_ne (by omega), Array.getElem?_setIfInBounds_ne (by omega), Array.getElem?_setIfInBounds_ne (by omega), Array.getElem?_setIfInBounds_ne (by omega), Array.getElem?_setIfInBounds_ne (by omega)]
  · have hk' : k = 7 ∨ k = 17 ∨ k = 18 ∨ k = 19 ∨ k = 20 ∨ k = 21 ∨ k = 22 ∨ k = 23 ∨ k = 24 ∨ k = 25 := by omega
    rcases hk' with rfl | rfl | rfl | rfl | rfl | rfl | rfl | rfl | rfl | rfl <;> rw [hT _ (by decide)] <;> simp [hs]
def R48 (B a : Nat) (V : Value) (v : Nd) : Nat → Value → Prop
  | 0, x => x = V
  | 1, x => x = .pointer (some ⟨B, 0, none⟩)
  | 2, x => x = v.val
  | 3, x => x = .pointer (some ⟨B, 0, none⟩)
  | 4, x => x = .int .i64 (a : Nat)
  | _, _ => True
def S48 (act : Act) (W : World) (V : Value) (s : Nat) (e : Nat) (P1 P2 : World → Prop) (P3 : Nat → World → Prop) (P4 : Value → World → Prop) (j : Nat) (x : Act) (u : World) : Prop :=
  Fr48 act x ∧ (j ≤ 9 → T x 7 = V) ∧ (j = 5 → u = W.drew) ∧ (j = 6 → T x 22 = .int .i64 (s : Nat) ∧ P1 u) ∧ (j = 7 → T x 23 = .int .i64 (e : Nat) ∧ P2 u) ∧ (j = 8 → ∃ g, T x 24 = .slice (some ⟨g, 0, none⟩) 1 1 ∧ P3 g u) ∧ (j = 9 → ∃ V', T x 25 = V' ∧ P4 V' u) ∧ (j = 10 → ∃ V', T x 7 = V' ∧ P4 V' u)
section
variable {o : Oper} {a : Act} {w w' : World} {Q : Exit → Act → World → Prop}
attribute [local go_sem] Oper.semAt_some
set_option maxRecDepth 20000 in
theorem oc_call2 {K : Act → World → Prop} {p q f : Nat} {ts : Array TypeId} {v1 v2 : Value} (ho : o.op = .call { callee := .value (.func f), args := #[.tmp p, .tmp q], argTypes := ts }) (hf : Enters f) (h1 : T a p = v1) (h2 : T a q = v2) (hc : Calls Try.prog f #[v1, v2] w fun e w' => ∃ v, e = .returned v ∧ K (a.put o.dst v) w') : o.wp Try.prog a w K Q := by
  obtain ⟨dst, op, type, pos, after, guard⟩ := o
  simp only at ho
  subst ho
  refine oc_enter (args := #[v1, v2]) ?_ hc
  simp [Act.eval, h1, h2, go_sem]
  exact hf _ _
set_option maxRecDepth 20000 in
theorem oc_call3 {K : Act → World → Prop} {p q t f : Nat} {ts : Array TypeId} {v1 v2 v3 : Value} (ho : o.op = .call { callee := .value (.func f), args := #[.tmp p, .tmp q, .tmp t], argTypes := ts }) (hf : Enters f) (h1 : T a p = v1) (h2 : T a q = v2) (h3 : T a t = v3) (hc : Calls Try.prog f #[v1, v2, v3] w fun e w' => ∃ v, e = .returned v ∧ K (a.put o.dst v) w') : o.wp Try.prog a w K Q := by
  obtain ⟨dst, op, type, pos, after, guard⟩ := o
  simp only at ho
  subst ho
  refine oc_enter (args := #[v1, v2, v3]) ?_ hc
  simp [Act.eval, h1, h2, h3, go_sem]
  exact hf _ _
set_option maxRecDepth 20000 in
theorem oc_slice1 {K : Act → World → Prop} {p e : Nat} (ho : o.op = .buildSlice 96 1 #[(0, .tmp p)]) (hty : o.type = 96) (hp : T a p = .int .i64 (e : Nat)) (hr : K (a.put o.dst (.slice (some ⟨w.heap.size, 0, none⟩) 1 1)) (w.alloc (.cells #[.int .i64 (e : Nat)] 3))) : o.wp Try.prog a w K Q := by
  obtain ⟨dst, op, type, pos, after, guard⟩ := o
  simp only at ho hty
  subst ho hty
  refine oc_value (w' := w.alloc (.cells #[.int .i64 (e : Nat)] 3)) ?_ hr
  simp [execOp, Act.eval, hp, go_sem]
theorem run_append_int (w : World) (ty : TypeId) (base : Nat) (V : Value) (l : List Nat) (hn : RowI w base V l) (ad : Addr) (cap : Nat) (x : Nat) (hc : w.cell? ad = some (.int .i64 (x : Nat))) (hl : l.length ≤ 2000000) (hb : base ≤ w.heap.size) :
    ∃ g cap' w', (Builtin.append_ #[96, 96] ty #[V, .slice (some ad) 1 cap]).run Try.prog w = .ok (.slice (some ⟨g, 0, none⟩) (l.length + 1) cap') w' ∧ RowI w' base (.slice (some ⟨g, 0, none⟩) (l.length + 1) cap') (l ++ [x]) ∧ w.grownBy w' V.ownBlock := by
  obtain ⟨i0, hi, hz0, hz1, hz2⟩ := info_parts info3
  obtain ⟨g, cap', w', hr, ho2, hg, hgg, hlt⟩ := run_append_lies (P := Try.prog) w 96 ty base 3 i0 _ 1 8 Try.underlying96 hi hz0 hz1 hz2 rfl (by decide) V l.length _ hn ad 1 cap [.int .i64 (x : Nat)] rfl
    (fun j v hj => by
      cases j with
      | zero => simp at hj; subst hj; simpa [Addr.add] using hc
      | succ j => simp at hj) (fun v hv => by simp at hv; subst hv; rfl) (by decide) (by simp only [maxLen]; omega) (by omega) hb w.heap.size rfl
  refine ⟨g, cap', w', hr, ?_, hg⟩
  unfold RowI
  rw [List.length_append, List.map_append]
  exact ho2
theorem oc_append {K : Act → World → Prop} {p q : Nat} {V V' W : Value} (ho : o.op = .call { callee := .builtin .append, args := #[.tmp p, .tmp q], argTypes := #[96, 96] }) (h1 : T a p = V) (h2 : T a q = W) (hrun : (Builtin.append_ #[96, 96] o.type #[V, W]).run Try.prog w = .ok V' w') (hr : K (a.put o.dst V') w') : o.wp Try.prog a w K Q := by
  obtain ⟨dst, op, type, pos, after, guard⟩ := o
  simp only at ho hrun
  subst ho
  refine oc_value (v := V') (w' := w') ?_ hr
  have g1 : a.eval (.tmp p) = V := by simpa [Act.eval] using h1
  have g2 : a.eval (.tmp q) = W := by simpa [Act.eval] using h2
  simp only [execOp, resolve, invoke, builtin, Sem.run_bind, Sem.run_pure, Result.andThen_ok, List.map_toArray, List.map_cons, List.map_nil, g1, g2, hrun]
end
theorem ent69 : Enters 69 := fun args w => by simp [go_sem]
theorem ent29 : Enters 29 := fun args w => by simp [go_sem]
set_option maxRecDepth 100000 in
set_option maxHeartbeats 1000000 in
theorem reg48 {act : Act} {W : World} {B A a s e : Nat} {V : Value} {v : Nd} {P1 P2 : World → Prop} {P3 : Nat → World → Prop} {P4 : Value → World → Prop} {Q : Exit → Act → World → Prop} (hsz : act.tmps.size = 30) (hT0 : T act 0 = .pointer (some ⟨B, 0, none⟩)) (hT2 : T act 2 = .int .i64 (a : Nat)) (hT7 : T act 7 = V) (hT9 : T act 9 = .pointer (some ⟨A, 0, none⟩))
    (hnb : NB W A v) (hN1 : ∀ u, P1 u → NB u A v)
    (h1 : Calls Try.prog 69 #[.pointer (some ⟨B, 0, none⟩), .int .i64 (a : Nat)] W.drew fun x u => x = .returned (.int .i64 (s : Nat)) ∧ P1 u)
    (h2 : ∀ u, P1 u → Calls Try.prog 29 #[.pointer (some ⟨B, 0, none⟩), v.val, .int .i64 (s : Nat)] u fun x u => x = .returned (.int .i64 (e : Nat)) ∧ P2 u)
    (h3 : ∀ u, P2 u → P3 u.heap.size (u.alloc (.cells #[.int .i64 (e : Nat)] 3)))
    (h4 : ∀ g u ty, P3 g u → ∃ V' u', (Builtin.append_ #[96, 96] ty #[V, .slice (some ⟨g, 0, none⟩) 1 1]).run Try.prog u = .ok V' u' ∧ P4 V' u')
    (K : ∀ a' W' V', Fr48 act a' → T a' 7 = V' → P4 V' W' → Q .normal a' W') : (Code.region 5 (opsOf Try.f48 5) true).wp Try.prog Q act W := by
  refine wp_region_chain2 (by kernel_rfl) 5 10 (by kernel_rfl) (by decide) (fun i => 17 + i) (R48 B a V v) (S48 act W V s e P1 P2 P3 P4) ?put ?sz ?inj (by kernel_rfl) (fun i => match i with | 0 => 8 | 1 => 6 | 2 => 6 | _ => 5) (by kernel_rfl) ?duty ?fin ⟨⟨hsz, rfl, fun _ _ _ => rfl⟩, fun _ => hT7, fun _ => rfl, fun h => absurd h (by decide), fun h => absurd h (by decide), fun h => absurd h (by decide), fun h => absurd h (by decide), fun h => absurd h (by decide)⟩
  case put =>
    rintro j x u i y hi ⟨g1, g2, g3, g4, g5, g6, g7, g8⟩
    refine ⟨g1.put (Or.inr (by omega)) y, fun h => ?_, g3, fun h => ?_, fun h => ?_, fun h => ?_, fun h => ?_, fun h => ?_⟩
    · rw [put_T (by omega)]; exact g2 h
    · rw [put_T (by omega)]; exact g4 h
    · rw [put_T (by omega)]; exact g5 h
    · rw [put_T (by omega)]; exact g6 h
    · rw [put_T (by omega)]; exact g7 h
    · rw [put_T (by omega)]; exact g8 h
  case sz =>
    intro j x u i hi h
    rw [h.1.1]
    show 17 + i < 30
    omega
  case inj =>
    intro i j _ _ h
    exact Nat.add_left_cancel h
  case fin =>
    intro x u h _
    obtain ⟨V', e1, e2⟩ := h.2.2.2.2.2.2.2 rfl
    exact K x u V' h.1 e1 e2
  case duty =>
    have hTa : ∀ {j : Nat} {x : Act} {u : World}, S48 act W V s e P1 P2 P3 P4 j x u → ∀ {k : Nat}, k ≠ 7 → (k < 17 ∨ 26 ≤ k) → T x k = T act k := fun h k hk hk2 => fr48_T h.1 hk hk2
    refine ⟨⟨rfl, by simp, fun _ => ⟨rfl, fun j x u hj5 hj hS hE Q => ?s0⟩, fun h => absurd h (by decide)⟩, ⟨rfl, by simp, fun _ => ⟨rfl, fun j x u hj5 hj hS hE Q => ?s1⟩, fun h => absurd h (by decide)⟩, ⟨rfl, by simp, fun _ => ⟨rfl, fun j x u hj5 hj hS hE Q => ?s2⟩, fun h => absurd h (by decide)⟩, ⟨rfl, by simp, fun _ => ⟨rfl, fun j x u hj5 hj hS hE Q => ?s3⟩, fun h => absurd h (by decide)⟩, ⟨rfl, by simp, fun _ => ⟨rfl, fun j x u hj5 hj hS hE Q => ?s4⟩, fun h => absurd h (by decide)⟩, ⟨rfl, by simp, fun h => absurd h (by decide), fun _ x u hS hE => ?c5⟩, ⟨rfl, by simp, fun h => absurd h (by decide), fun _ x u hS hE => ?c6⟩, ⟨rfl, by simp, fun h => absurd h (by decide), fun _ x u hS hE => ?c7⟩, ⟨rfl, by simp, fun h => absurd h (by decide), fun _ x u hS hE => ?c8⟩, ⟨rfl, by simp, fun h => absurd h (by decide), fun _ x u hS hE => ?c9⟩, trivial⟩
    case s0 => exact og_move rfl (hS.2.1 (by have := hj; simp only at this; omega)) rfl
    case s1 => exact og_move rfl ((hTa hS (by decide) (by decide)).trans hT0) rfl
    case s2 =>
      refine og_node rfl ((hTa hS (by decide) (by decide)).trans hT9) ?_ rfl
      have hj' : j ≤ 6 := hj
      by_cases h5 : j = 5
      · rw [hS.2.2.1 h5]; exact hnb
      · by_cases h6 : j = 6
        · exact hN1 u (hS.2.2.2.1 h6).2
        · exact absurd hj5 (by omega)
    case s3 => exact og_move rfl ((hTa hS (by decide) (by decide)).trans hT0) rfl
    case s4 => exact og_move rfl ((hTa hS (by decide) (by decide)).trans hT2) rfl
    case c5 =>
      have hu := hS.2.2.1 rfl
      subst hu
      refine oc_call2 rfl ent69 (hE ⟨3, .data⟩ (by simp) (by decide) rfl) (hE ⟨4, .data⟩ (by simp) (by decide) rfl) (h1.mono ?_)
      rintro x' u' ⟨rfl, hP⟩
      exact ⟨_, rfl, ⟨hS.1.put (Or.inr (by decide)) _, fun _ => by rw [put_T (by decide)]; exact hS.2.1 (by decide), fun h => absurd h (by decide), fun _ => ⟨put_T' (by rw [hS.1.1]; decide), hP⟩, fun h => absurd h (by decide), fun h => absurd h (by decide), fun h => absurd h (by decide), fun h => absurd h (by decide)⟩, fun j hj => put_T (by omega)⟩
    case c6 =>
      obtain ⟨hv, hP⟩ := hS.2.2.2.1 rfl
      refine oc_call3 rfl ent29 (hE ⟨1, .data⟩ (by simp) (by decide) rfl) (hE ⟨2, .data⟩ (by simp) (by decide) rfl) hv ((h2 u hP).mono ?_)
      rintro x' u' ⟨rfl, hP⟩
      exact ⟨_, rfl, ⟨hS.1.put (Or.inr (by decide)) _, fun _ => by rw [put_T (by decide)]; exact hS.2.1 (by decide), fun h => absurd h (by decide), fun h => absurd h (by decide), fun _ => ⟨put_T' (by rw [hS.1.1]; decide), hP⟩, fun h => absurd h (by decide), fun h => absurd h (by decide), fun h => absurd h (by decide)⟩, fun j hj => put_T (by omega)⟩
    case c7 =>
      obtain ⟨hv, hP⟩ := hS.2.2.2.2.1 rfl
      refine oc_slice1 rfl rfl hv ⟨⟨hS.1.put (Or.inr (by decide)) _, fun _ => by rw [put_T (by decide)]; exact hS.2.1 (by decide), fun h => absurd h (by decide), fun h => absurd h (by decide), fun h => absurd h (by decide), fun _ => ⟨_, put_T' (by rw [hS.1.1]; decide), h3 u hP⟩, fun h => absurd h (by decide), fun h => absurd h (by decide)⟩, fun j hj => put_T (by omega)⟩
    case c8 =>
      obtain ⟨g, hv, hP⟩ := hS.2.2.2.2.2.1 rfl
      obtain ⟨V', u', hrun, hP'⟩ := h4 g u _ hP
      refine oc_append rfl (hE ⟨0, .data⟩ (by simp) (by decide) rfl) hv hrun ⟨⟨hS.1.put (Or.inr (by decide)) _, fun _ => by rw [put_T (by decide)]; exact hS.2.1 (by decide), fun h => absurd h (by decide), fun h => absurd h (by decide), fun h => absurd h (by decide), fun h => absurd h (by decide), fun _ => ⟨_, put_T' (by rw [hS.1.1]; decide), hP'⟩, fun h => absurd h (by decide)⟩, fun j hj => put_T (by omega)⟩
    case c9 =>
      obtain ⟨V', hv, hP⟩ := hS.2.2.2.2.2.2.1 rfl
      refine oc_assign rfl hv ⟨⟨hS.1.put (Or.inl rfl) _, fun h => absurd h (by decide), fun h => absurd h (by decide), fun h => absurd h (by decide), fun h => absurd h (by decide), fun h => absurd h (by decide), fun h => absurd h (by decide), fun _ => ⟨_, put_T' (by rw [hS.1.1]; decide), hP⟩⟩, fun j hj => put_T (by omega)⟩
end Go.Proofs.Ytjmbimgofceanaa

/- The program's join. -/
namespace Go.Proofs.Ytjmbimgofceanaa
open Go.RowKit
attribute [local go_sem ↓] Go.wp_at_zero Go.wp_at_succ

set_option maxRecDepth 4000 in
set_option maxHeartbeats 4000000 in
theorem bjoin_any (B b0 Y base : Nat) (m : Mk) (l : List Nat) (oa : Option Addr) (n oc : Nat) (w : World) (hn : l.length = n) (h : BB w b0 B Y m) (hb : b0 ≤ w.heap.size) (hI : RowI w base (.slice oa n oc) l) (hS : (joint (m, l)).1.S ≤ 1000000) (hE : (joint (m, l)).1.es.length ≤ 1000000) : Calls Try.prog 70 #[.pointer (some ⟨B, 0, none⟩), .slice oa n oc] w fun e w' => e = .returned (.int .i64 ((joint (m, l)).2 : Nat)) ∧ BB w' b0 B Y (joint (m, l)).1 ∧ Fm b0 B w w' := by
  obtain ⟨z1, z2⟩ := joint_size (m, l)
  simp only at z1 z2
  have hS1 : m.S + 1 ≤ 1000000 := by omega
  have hn6 : n ≤ 1000000 := by omega
  obtain ⟨R, hR⟩ : ∃ R, (joint (m, l)).1 = R := ⟨_, rfl⟩
  have HR : Hid (frees l m.S m.st = R) := by rw [← hR]; rfl
  have HJ : Hid ((joint (m, l)).2 = m.S) := rfl
  have HE : Hid (R.es.length ≤ 1000000) := by rw [← hR]; exact hE
  have HJ1 : Hid ((joint (m, l)).1 = R) := hR
  rw [hR, HJ.out]
  have HB : Hid (BB w b0 B Y m) := h
  have HI : Hid (RowI w base (.slice oa n oc) l) := hI
  have HZ : Hid (b0 ≤ w.heap.size) := hb
  have HN : Hid (l.length = n) := hn
  clear z1 z2 hR h hI hb hS hE hn
  go_enter Try.func70, Try.ntmps70
  go_wp2_with fail
  refine (bstate_any B b0 Y m w HB.out (by omega)).mono ?_
  rintro e w1 ⟨rfl, h1, f1⟩
  have HB1 : Hid (BB w1 b0 B Y m.st) := h1
  have HF1 : Hid (Fm b0 B w w1) := f1
  have HI1 : Hid (RowI w1 base (.slice oa n oc) l) := HI.out.fmb HB.out f1
  have HZ1 : Hid (b0 ≤ w1.heap.size) := Nat.le_trans HZ.out f1.size
  clear h1 f1 HB HI HZ
  go_wp2_with fail
  go_loopw [12] (fun i u => ∃ (j : Nat) (m3 : Mk), i = .int .i64 (j : Nat) ∧ j ≤ n ∧ Hid (frees (l.drop j) m.S m3 = R) ∧ Hid (RowI u base (.slice oa n oc) l) ∧ Hid (BB u b0 B Y m3) ∧ Hid (Fm b0 B w u) ∧ Hid (b0 ≤ u.heap.size)) (fun i _ => n - (intOf i).toNat)
  case atStart => exact ⟨0, m.st, rfl, Nat.zero_le _, HR, HI1, HB1, HF1, HZ1⟩
  case round =>
    clear HR HI1 HB1 HF1 HZ1
    obtain ⟨j, m3, rfl, hj, HRj, HIj, HBj, HFj, HZj⟩ := hrel
    by_cases hlt : j < n
    · have hlt' : (j : Int) < (n : Int) := by omega
      obtain ⟨x, hx⟩ : ∃ x, l[j]? = some x := ⟨_, List.getElem?_eq_getElem (by rw [HN.out]; exact hlt)⟩
      obtain ⟨g, hg, hc⟩ := HIj.out.at hx
      subst hg
      have HR4 : Hid (frees (l.drop (j + 1)) m.S (m3.fr x m.S) = R) := (frees_step hx m.S m3).symm.trans HRj.out
      have hge : m3.es.length + 1 ≤ 1000000 := by
        have h1 := (frees_le (l.drop (j + 1)) m.S (m3.fr x m.S)).2
        rw [HR4.out] at h1
        have h2 := Nat.le_trans h1 HE.out
        simpa [Mk.fr, Mk.ed] using h2
      clear hx
      go_wp2_with fail
      refine (bfree_any B b0 Y m3 x m.S wr HBj.out HZj.out (by omega)).mono ?_
      rintro e w4 ⟨rfl, h4, f4⟩
      have HB4 : Hid (BB w4 b0 B Y (m3.fr x m.S)) := h4
      have HF4 : Hid (Fm b0 B w w4) := HFj.out.trans f4
      have HI4 : Hid (RowI w4 base (.slice (some ⟨g, 0, none⟩) n oc) l) := HIj.out.fmb HBj.out f4
      have HZ4 : Hid (b0 ≤ w4.heap.size) := Nat.le_trans HZj.out f4.size
      clear h4 f4 HBj HFj HIj HZj hc
      go_wp2
      go_roundw
      case rel => exact ⟨j + 1, m3.fr x m.S, by go_num, by omega, HR4, HI4, HB4, HF4, HZ4⟩
      case measure => simp [intOf]; omega
    · have hlt' : ¬ (j : Int) < (n : Int) := by omega
      have HEq : Hid (R = m3) := by
        show _ = _
        rw [← HRj.out, List.drop_of_length_le (by rw [HN.out]; omega), frees]
      clear HRj
      go_wp2
      go_ret
      rw [HEq.out]
      exact ⟨rfl, HBj.out, HFj.out⟩
end Go.Proofs.Ytjmbimgofceanaa
