/- ere.read's deferred function. -/
import Derived.Test.YtlcnmfgmgiijpaaG21
import Derived.Defers
import Derived.Recover
namespace Go.Proofs.Ytlcnmfgmgiijpaa
open Go.RowKit
attribute [local go_sem ↓] Go.wp_at_zero Go.wp_at_succ
theorem eq20_nil (w : World) : (binOp .eql 20 .nilIface .nilIface).run Try.prog w = .ok (.bool true) w := by kernel_rfl
theorem eq20_some (v : Value) (w : World) : (binOp .eql 20 (.iface 61 v) .nilIface).run Try.prog w = .ok (.bool false) w := by kernel_rfl
theorem catch_idle (p q r : Addr) (w : World) :
    CallsD Try.prog 32 #[.pointer (some p), .pointer (some q), .pointer (some r)] .returning w fun e u' w' => e = .returned (.tuple #[]) ∧ u' = .returning ∧ w' = w := by
  have q20 := eq20_nil
  refine callsD_of_wpS Try.func32 rfl fun c₀ cs hu => ?_
  apply wpS_seq
  apply wpS_region
  simp [wpOpsS, go_sem, recoverD, hu, Try.ntmps32, Exit.thenS]
  apply wpS_seq
  apply wpS_seq
  apply wpS_region
  simp [wpOpsS, go_sem, Exit.thenS, q20]
  refine wpS_cond (t := true) (by simp [Act.eval, Array.replicate]) ?_
  simp only [if_true]
  refine wpS_of_wp (wp_ret ?_)
  cases c₀
  simp_all [bodyPostS, results, Try.results32, Exit.thenS]
end Go.Proofs.Ytlcnmfgmgiijpaa

/- ere.read's deferred function, where it catches a fault. -/
namespace Go.Proofs.Ytlcnmfgmgiijpaa
open Go.RowKit

/-- a box of an integer -/
def IB (w : World) (A : Nat) (t : TypeId) (v : Int) : Prop := w.heap[A]? = some (.cells #[.int .i64 v] t (0, 0))
theorem IB.lt {w : World} {A : Nat} {t : TypeId} {v : Int} (h : IB w A t v) : A < w.heap.size := (Array.getElem?_eq_some_iff.1 h).1
theorem IB.later {w w' : World} {A : Nat} {t : TypeId} {v : Int} (h : IB w A t v) (hb : Below w.heap.size w w') : IB w' A t v := (hb.block A h.lt).trans h
theorem IB.grown {w w' : World} {A : Nat} {t : TypeId} {v : Int} {r : Option Nat} (h : IB w A t v) (hg : w.grownBy w' r) (hne : some A ≠ r) : IB w' A t v := (hg.block A h.lt hne).trans h
theorem IB.cell {w : World} {A : Nat} {t : TypeId} {v : Int} (h : IB w A t v) : w.cell? ⟨A, 0, none⟩ = some (.int .i64 v) := by
  unfold IB at h
  simp [World.cell?, h]
theorem IB.frozen {w : World} {A : Nat} {t : TypeId} {v : Int} (h : IB w A t v) : w.frozen? ⟨A, 0, none⟩ = false := by
  unfold IB at h
  simp [World.frozen?, h]
theorem IB.put {w : World} {A : Nat} {t : TypeId} {v : Int} (h : IB w A t v) (x : Int) : IB (w.setCell ⟨A, 0, none⟩ (.int .i64 x)) A t x := by
  have := heap_set h 0 (.int .i64 x)
  unfold IB
  rw [this]
  rfl
theorem IB.other {w : World} {A B : Nat} {t : TypeId} {v : Int} (h : IB w A t v) (hne : A ≠ B) (j : Nat) (x : Value) : IB (w.setCell ⟨B, j, none⟩ x) A t v := by
  unfold IB at h ⊢
  rw [Below.heap_setCell w ⟨B, j, none⟩ x A hne]
  exact h
theorem IB.put8 {w : World} {A B : Nat} {t : TypeId} {v : Int} (h : IB w A t v) (hne : A ≠ B) (x : Nd) : IB (put8 w B x) A t v := by
  unfold IB at h ⊢
  rw [heap_put8 w B x A hne]
  exact h
/-- the fault's box -/
def FB (w : World) (A i e : Nat) : Prop := w.heap[A]? = some (.cells #[.int .i64 (i : Nat), .int .i64 (e : Nat)] 61 (0, 0))
theorem FB.other {w : World} {A B i e : Nat} (h : FB w A i e) (hne : A ≠ B) (j : Nat) (x : Value) : FB (w.setCell ⟨B, j, none⟩ x) A i e := by
  unfold FB at h ⊢
  rw [Below.heap_setCell w ⟨B, j, none⟩ x A hne]
  exact h
theorem FB.put8 {w : World} {A B i e : Nat} (h : FB w A i e) (hne : A ≠ B) (x : Nd) : FB (put8 w B x) A i e := by
  unfold FB at h ⊢
  rw [heap_put8 w B x A hne]
  exact h
theorem FB.cells {w : World} {A i e : Nat} (h : FB w A i e) : w.cell? ⟨A, 0, none⟩ = some (.int .i64 (i : Nat)) ∧ w.cell? ⟨A, 1, none⟩ = some (.int .i64 (e : Nat)) := by
  unfold FB at h
  simp [World.cell?, h]
/-- THE STATE inside the last region -/
structure In5 (W : World) (n TB P E F i e : Nat) (x : Nd) (o1 o2 : Int) (act : Act) (L : Nat → Bool) (a : Act) (u : World) : Prop where
  sz : a.tmps.size = 22
  df : a.defers = act.defers
  fr : ∀ k, k < 17 → a.tmps[k]? = act.tmps[k]?
  v0 : L 0 = true → T a 17 = .agg #[.int .i64 0, .int .u64 0, .int .u64 0, .int .u64 0, .int .u64 0, .slice none 0 0, .int .i64 0, .int .i64 0]
  v1 : L 1 = true → T a 18 = .pointer (some ⟨F, 0, none⟩)
  v2 : L 2 = true → T a 19 = .int .i64 (i : Nat)
  v3 : L 3 = true → T a 20 = .pointer (some ⟨F, 1, none⟩)
  v4 : L 4 = true → T a 21 = .int .i64 (e : Nat)
  fb : FB u F i e
  nb : NB u TB (if L 5 then zeroNd else x)
  pb : IB u P 3 (if L 6 then (i : Int) else o1)
  eb : IB u E 29 (if L 7 then (e : Int) else o2)
  be : Below n W u
theorem put_fr {act a : Act} (h : ∀ k, k < 17 → a.tmps[k]? = act.tmps[k]?) {d : Nat} (hd : 17 ≤ d) (v : Value) : ∀ k, k < 17 → (a.put (some d) v).tmps[k]? = act.tmps[k]? := fun k hk => by
  simp only [Act.put]
  rw [Array.getElem?_setIfInBounds_ne (by omega)]
  exact h k hk
set_option maxRecDepth 100000 in
set_option maxHeartbeats 2000000 in
theorem reg5 {act : Act} {n TB P E F i e : Nat} {x : Nd} {o1 o2 : Int} {W : World} {Q : Exit → Act → World → Prop}
    (hT0 : T act 0 = .pointer (some ⟨TB, 0, none⟩)) (hT1 : T act 1 = .pointer (some ⟨P, 0, none⟩)) (hT2 : T act 2 = .pointer (some ⟨E, 0, none⟩)) (hT4 : T act 4 = .pointer (some ⟨F, 0, none⟩)) (hsz : act.tmps.size = 22)
    (h1 : TB ≠ P) (h2 : TB ≠ E) (h3 : P ≠ E) (f1 : F ≠ TB) (f2 : F ≠ P) (f3 : F ≠ E) (k1 : n ≤ TB) (k2 : n ≤ P) (k3 : n ≤ E)
    (hF : FB W F i e) (hN : NB W TB x) (hP : IB W P 3 o1) (hE : IB W E 29 o2)
    (K : ∀ a' W', a'.defers = act.defers → NB W' TB zeroNd → IB W' P 3 i → IB W' E 29 e → Below n W W' → Q .normal a' W') : (Code.region 5 (opsOf Try.f32 5) true).wp Try.prog Q act W := by
  refine wp_region_inv (by kernel_rfl) (In5 W n TB P E F i e x o1 o2 act) ?wf ?step ?fin ?zero
  case zero =>
    intro L hL
    have l0 := hL 0 (by decide)
    have l1 := hL 1 (by decide)
    have l2 := hL 2 (by decide)
    have l3 := hL 3 (by decide)
    have l4 := hL 4 (by decide)
    have l5 := hL 5 (by decide)
    have l6 := hL 6 (by decide)
    have l7 := hL 7 (by decide)
    exact ⟨hsz, rfl, fun _ _ => rfl, by simp [l0], by simp [l1], by simp [l2], by simp [l3], by simp [l4], hF, by rw [l5]; exact hN, by rw [l6]; exact hP, by rw [l7]; exact hE, (Below.refl _ _).drew⟩
  case fin =>
    intro L a u hL hI
    have b1 := hI.nb
    have b2 := hI.pb
    have b3 := hI.eb
    rw [hL 5 (by decide)] at b1
    rw [hL 6 (by decide)] at b2
    rw [hL 7 (by decide)] at b3
    exact K a u hI.df b1 b2 b3 hI.be
  case wf =>
    have h : AllFrom (fun i o => ∀ e ∈ o.after, Region.binds .any e = true → e.on < i) 0 (opsOf Try.f32 5).toList := by
      refine ⟨by simp, by simp [Region.binds], by simp [Region.binds], by simp [Region.binds], by simp [Region.binds], by simp [Region.binds], by simp [Region.binds], by simp [Region.binds], trivial⟩
    intro i o e ho he hb
    have := allFrom_at h i o (by simpa using ho) e he hb
    omega
  case step =>
    have h : AllFrom (fun k p => p.guard = none ∧ ∀ L a u, In5 W n TB P E F i e x o1 o2 act L a u → L k = false → (∀ e ∈ p.after, Region.binds .any e = true → L e.on = true) → p.wp Try.prog a u (fun a' w' => In5 W n TB P E F i e x o1 o2 act (more L k) a' w') Q) 0 (opsOf Try.f32 5).toList := by
      refine ⟨⟨rfl, fun L a u hI hk hE => ?s0⟩, ⟨rfl, fun L a u hI hk hE => ?s1⟩, ⟨rfl, fun L a u hI hk hE => ?s2⟩, ⟨rfl, fun L a u hI hk hE => ?s3⟩, ⟨rfl, fun L a u hI hk hE => ?s4⟩, ⟨rfl, fun L a u hI hk hE => ?s5⟩, ⟨rfl, fun L a u hI hk hE => ?s6⟩, ⟨rfl, fun L a u hI hk hE => ?s7⟩, trivial⟩
      case s0 =>
        refine ob_plain (v := .agg #[.int .i64 0, .int .u64 0, .int .u64 0, .int .u64 0, .int .u64 0, .slice none 0 0, .int .i64 0, .int .i64 0]) (w' := u) ?_ ?_
        · simp [execOp, Act.eval, go_sem]
        · exact ⟨by simpa [Act.put] using hI.sz, hI.df, put_fr hI.fr (by decide) _, fun _ => T_put (by rw [hI.sz]; decide), fun h => (T_put' (by decide)).trans (hI.v1 (by simpa [more] using h)), fun h => (T_put' (by decide)).trans (hI.v2 (by simpa [more] using h)), fun h => (T_put' (by decide)).trans (hI.v3 (by simpa [more] using h)), fun h => (T_put' (by decide)).trans (hI.v4 (by simpa [more] using h)), hI.fb, by simpa [more] using hI.nb, by simpa [more] using hI.pb, by simpa [more] using hI.eb, hI.be⟩
      case s1 =>
        have hx := (show T a 4 = T act 4 by unfold T; rw [hI.fr 4 (by decide)]).trans hT4
        refine ob_plain (v := .pointer (some ⟨F, 0, none⟩)) (w' := u) ?_ ?_
        · unfold T at hx
          simp [execOp, Act.eval, hx, go_sem]
        · exact ⟨by simpa [Act.put] using hI.sz, hI.df, put_fr hI.fr (by decide) _, fun h => (T_put' (by decide)).trans (hI.v0 (by simpa [more] using h)), fun _ => T_put (by rw [hI.sz]; decide), fun h => (T_put' (by decide)).trans (hI.v2 (by simpa [more] using h)), fun h => (T_put' (by decide)).trans (hI.v3 (by simpa [more] using h)), fun h => (T_put' (by decide)).trans (hI.v4 (by simpa [more] using h)), hI.fb, by simpa [more] using hI.nb, by simpa [more] using hI.pb, by simpa [more] using hI.eb, hI.be⟩
      case s2 =>
        have hx := hI.v1 (hE ⟨1, .data⟩ (by simp) rfl)
        have c0 := hI.fb.cells.1
        refine ob_plain (v := .int .i64 (i : Nat)) (w' := u) ?_ ?_
        · unfold T at hx
          simp [execOp, Act.eval, hx, go_sem, c0]
        · exact ⟨by simpa [Act.put] using hI.sz, hI.df, put_fr hI.fr (by decide) _, fun h => (T_put' (by decide)).trans (hI.v0 (by simpa [more] using h)), fun h => (T_put' (by decide)).trans (hI.v1 (by simpa [more] using h)), fun _ => T_put (by rw [hI.sz]; decide), fun h => (T_put' (by decide)).trans (hI.v3 (by simpa [more] using h)), fun h => (T_put' (by decide)).trans (hI.v4 (by simpa [more] using h)), hI.fb, by simpa [more] using hI.nb, by simpa [more] using hI.pb, by simpa [more] using hI.eb, hI.be⟩
      case s3 =>
        have hx := (show T a 4 = T act 4 by unfold T; rw [hI.fr 4 (by decide)]).trans hT4
        refine ob_plain (v := .pointer (some ⟨F, 1, none⟩)) (w' := u) ?_ ?_
        · unfold T at hx
          simp [execOp, Act.eval, hx, go_sem]
        · exact ⟨by simpa [Act.put] using hI.sz, hI.df, put_fr hI.fr (by decide) _, fun h => (T_put' (by decide)).trans (hI.v0 (by simpa [more] using h)), fun h => (T_put' (by decide)).trans (hI.v1 (by simpa [more] using h)), fun h => (T_put' (by decide)).trans (hI.v2 (by simpa [more] using h)), fun _ => T_put (by rw [hI.sz]; decide), fun h => (T_put' (by decide)).trans (hI.v4 (by simpa [more] using h)), hI.fb, by simpa [more] using hI.nb, by simpa [more] using hI.pb, by simpa [more] using hI.eb, hI.be⟩
      case s4 =>
        have hx := hI.v3 (hE ⟨3, .data⟩ (by simp) rfl)
        have c0 := hI.fb.cells.2
        refine ob_plain (v := .int .i64 (e : Nat)) (w' := u) ?_ ?_
        · unfold T at hx
          simp [execOp, Act.eval, hx, go_sem, c0]
        · exact ⟨by simpa [Act.put] using hI.sz, hI.df, put_fr hI.fr (by decide) _, fun h => (T_put' (by decide)).trans (hI.v0 (by simpa [more] using h)), fun h => (T_put' (by decide)).trans (hI.v1 (by simpa [more] using h)), fun h => (T_put' (by decide)).trans (hI.v2 (by simpa [more] using h)), fun h => (T_put' (by decide)).trans (hI.v3 (by simpa [more] using h)), fun _ => T_put (by rw [hI.sz]; decide), hI.fb, by simpa [more] using hI.nb, by simpa [more] using hI.pb, by simpa [more] using hI.eb, hI.be⟩
      case s5 =>
        have hv := hI.v0 (hE ⟨0, .data⟩ (by simp) rfl)
        have hp := (show T a 0 = T act 0 by unfold T; rw [hI.fr 0 (by decide)]).trans hT0
        have hk : L 5 = false := hk
        have hnb := hI.nb
        rw [hk] at hnb
        obtain ⟨t0, t1, t2, t3, t4, t5, t6, t7⟩ := hnb.cells
        have y0 := hnb.frozen 0
        have y1 := hnb.frozen 1
        have y2 := hnb.frozen 2
        have y3 := hnb.frozen 3
        have y4 := hnb.frozen 4
        have y5 := hnb.frozen 5
        have y6 := hnb.frozen 6
        have y7 := hnb.frozen 7
        refine ob_skip (w' := put8z u TB 0 none 0 0 0 0) ?_ ?_
        · unfold T at hv hp
          simp [execOp, Act.eval, hv, hp, go_sem, t0, t1, t2, t3, t4, t5, t6, t7, y0, y1, y2, y3, y4, y5, y6, y7, put8z]
        · rw [put8z_eq]
          exact ⟨hI.sz, hI.df, hI.fr, fun h => hI.v0 (by simpa [more] using h), fun h => hI.v1 (by simpa [more] using h), fun h => hI.v2 (by simpa [more] using h), fun h => hI.v3 (by simpa [more] using h), fun h => hI.v4 (by simpa [more] using h), hI.fb.put8 f1 _, by simp only [more, if_true]; exact hnb.put8 _, by simpa [more] using hI.pb.put8 h1.symm _, by simpa [more] using hI.eb.put8 h2.symm _, below_put8 hI.be k1 _⟩
      case s6 =>
        have hv := hI.v2 (hE ⟨2, .data⟩ (by simp) rfl)
        have hp := (show T a 1 = T act 1 by unfold T; rw [hI.fr 1 (by decide)]).trans hT1
        have t0 := hI.pb.cell
        have y0 := hI.pb.frozen
        refine ob_skip (w' := u.setCell ⟨P, 0, none⟩ (.int .i64 (i : Nat))) ?_ ?_
        · unfold T at hv hp
          simp [execOp, Act.eval, hv, hp, go_sem, t0, y0]
        · exact ⟨hI.sz, hI.df, hI.fr, fun h => hI.v0 (by simpa [more] using h), fun h => hI.v1 (by simpa [more] using h), fun h => hI.v2 (by simpa [more] using h), fun h => hI.v3 (by simpa [more] using h), fun h => hI.v4 (by simpa [more] using h), hI.fb.other f2 _ _, by simpa [more] using hI.nb.set h1 0 (.int .i64 (i : Nat)), by simpa [more] using hI.pb.put (i : Nat), by simpa [more] using hI.eb.other h3.symm 0 (.int .i64 (i : Nat)), hI.be.setCell (p := ⟨P, 0, none⟩) k2 _⟩
      case s7 =>
        have hv := hI.v4 (hE ⟨4, .data⟩ (by simp) rfl)
        have hp := (show T a 2 = T act 2 by unfold T; rw [hI.fr 2 (by decide)]).trans hT2
        have t0 := hI.eb.cell
        have y0 := hI.eb.frozen
        refine ob_skip (w' := u.setCell ⟨E, 0, none⟩ (.int .i64 (e : Nat))) ?_ ?_
        · unfold T at hv hp
          simp [execOp, Act.eval, hv, hp, go_sem, t0, y0]
        · exact ⟨hI.sz, hI.df, hI.fr, fun h => hI.v0 (by simpa [more] using h), fun h => hI.v1 (by simpa [more] using h), fun h => hI.v2 (by simpa [more] using h), fun h => hI.v3 (by simpa [more] using h), fun h => hI.v4 (by simpa [more] using h), hI.fb.other f3 _ _, by simpa [more] using hI.nb.set h2 0 (.int .i64 (e : Nat)), by simpa [more] using hI.pb.other h3 0 (.int .i64 (e : Nat)), by simpa [more] using hI.eb.put (e : Nat), hI.be.setCell (p := ⟨E, 0, none⟩) k3 _⟩
    intro k p hp
    have := allFrom_at h k p (by simpa using hp)
    rwa [Nat.zero_add] at this
end Go.Proofs.Ytlcnmfgmgiijpaa

/- ere.read's deferred function: both ways. -/
namespace Go.Proofs.Ytlcnmfgmgiijpaa
open Go.RowKit

theorem ta61 (v : Value) (w : World) : (Instr.typeAssert (.iface 61 v) 20 61 true).run Try.prog w = .ok (.tuple #[v, .bool true]) w := by kernel_rfl
theorem fb_new (w : World) (i e : Nat) : FB (w.alloc (.cells #[.int .i64 (i : Nat), .int .i64 (e : Nat)] 61)) w.heap.size i e := heap_alloc_new w _
set_option maxRecDepth 4000 in
set_option maxHeartbeats 4000000 in
theorem catch_panicking (TB P E : Nat) (i e : Nat) (x : Nd) (o1 o2 : Int) (w : World) (hT : NB w TB x) (hP : IB w P 3 o1) (hE : IB w E 29 o2) (h1 : TB ≠ P) (h2 : TB ≠ E) (h3 : P ≠ E) (n : Nat) (k1 : n ≤ TB) (k2 : n ≤ P) (k3 : n ≤ E) (hn : n ≤ w.heap.size) :
    CallsD Try.prog 32 #[.pointer (some ⟨TB, 0, none⟩), .pointer (some ⟨P, 0, none⟩), .pointer (some ⟨E, 0, none⟩)] (.panicking [{ v := flt i e, recovered := false }]) w fun r u' w' =>
      r = .returned (.tuple #[]) ∧ u' = .panicking [{ v := flt i e, recovered := true }] ∧ NB w' TB zeroNd ∧ IB w' P 3 i ∧ IB w' E 29 e ∧ Below n w w' := by
  have q20 := eq20_some
  have ta := ta61
  have hal := (Below.refl w.heap.size w).alloc (Nat.le_refl _) (.cells #[.int .i64 (i : Nat), .int .i64 (e : Nat)] 61)
  have hbn : Below n w (w.alloc (.cells #[.int .i64 (i : Nat), .int .i64 (e : Nat)] 61)) := (Below.refl n w).alloc hn _
  have hT' := hT.later hal
  have hP' := hP.later hal
  have hE' := hE.later hal
  have hF' := fb_new w i e
  have f1 : w.heap.size ≠ TB := by have := hT.lt; omega
  have f2 : w.heap.size ≠ P := by have := hP.lt; omega
  have f3 : w.heap.size ≠ E := by have := hE.lt; omega
  unfold flt
  refine callsD_of_wpS Try.func32 rfl fun c₀ cs hu => ?_
  apply wpS_seq
  apply wpS_region
  simp [wpOpsS, go_sem, recoverD, hu, Try.ntmps32, Exit.thenS]
  apply wpS_seq
  apply wpS_seq
  apply wpS_region
  simp [wpOpsS, go_sem, Exit.thenS, q20]
  refine wpS_cond (t := false) (by simp [Act.eval, Array.replicate]) ?_
  simp only [Bool.false_eq_true, if_false]
  refine wpS_of_wp (wp_skip ?_)
  simp only [Exit.thenS]
  apply wpS_seq
  apply wpS_region
  simp [wpOpsS, go_sem, Exit.thenS, ta]
  apply wpS_seq
  apply wpS_seq
  apply wpS_region
  simp [wpOpsS, go_sem, Exit.thenS]
  refine wpS_cond (t := false) (by simp [Act.eval, Array.replicate]) ?_
  simp only [Bool.false_eq_true, if_false]
  refine wpS_of_wp (wp_skip ?_)
  simp only [Exit.thenS]
  refine wpS_of_wp ?_
  refine reg5 (n := n) (TB := TB) (P := P) (E := E) (F := w.heap.size) (i := i) (e := e) (x := x) (o1 := o1) (o2 := o2) (by simp [T]) (by simp [T]) (by simp [T]) (by simp [T]) (by simp) h1 h2 h3 f1 f2 f3 k1 k2 k3 hF' hT' hP' hE' ?_
  intro a' W' hdf q1 q2 q3 q4
  have q5 : Below n w W' := ⟨q4.os.trans hbn.os, q4.tape.trans hbn.tape, q4.output.trans hbn.output, Nat.le_trans hbn.size q4.size, fun b hb => (q4.block b hb).trans (hbn.block b hb)⟩
  clear q4 hT hP hE hal hbn hT' hP' hE' hF' f1 f2 f3 q20 ta
  exact ⟨hdf, _, rfl, _, results_none rfl _ _ _, rfl, rfl, q1, q2, q3, q5⟩
end Go.Proofs.Ytlcnmfgmgiijpaa
