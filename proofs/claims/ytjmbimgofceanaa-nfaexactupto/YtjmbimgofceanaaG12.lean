/- The region of ere's set that joins one item more, where the item gives up; the region that takes the newline out. -/
import Derived.Test.YtjmbimgofceanaaG11
namespace Go.Proofs.Ytjmbimgofceanaa
open Go Go.RowKit

structure Inv8b (w : World) (s : ByteArray) (B Y R d : Nat) (i o : Nat) (A : Oct.S) (act : Act) (L : Nat → Bool) (a : Act) (u : World) : Prop where
  fr : Fr8 act a
  n3 : L 3 = false
  n4 : L 4 = false
  n5 : L 5 = false
  v1 : L 1 = true → T a 34 = .pointer (some ⟨B, 0, none⟩)
  v2 : L 2 = true → T a 35 = .int .i64 (o : Nat)
  s0 : Sx w s B Y R d u i A
set_option maxRecDepth 100000 in
theorem reg8_bad {act : Act} {w : World} {s : ByteArray} {B Y R d : Nat} {W : World} {i o : Nat} {A : Oct.S} {x c : Nat} {Q : Exit → Act → World → Prop} (hT0 : T act 0 = .pointer (some ⟨B, 0, none⟩)) (hT3 : T act 3 = .int .i64 (o : Nat)) (hT5 : T act 5 = .pointer (some ⟨Y, 0, none⟩)) (hsz : act.tmps.size = 52)
    (hS : Sx w s B Y R d W i A) (hi : i ≤ s.size) (hs : s.size ≤ 1024) (hit : item s o i = .bad x c)
    (K : ∀ a' W', a'.defers = act.defers → w.grownBy W' (some B) → Q (.panic [{ v := flt x c, recovered := false }]) a' W') : (Code.region 8 (opsOf Try.f86 8) true).wp Try.prog Q act W := by
  refine wp_region_inv (by kernel_rfl) (Inv8b w s B Y R d i o A act) ?wf ?step ?fin ?zero
  case zero =>
    intro L hL
    exact ⟨⟨hsz, rfl, fun _ _ => rfl⟩, hL 3 (by decide), hL 4 (by decide), hL 5 (by decide), by simp [hL 1 (by decide)], by simp [hL 2 (by decide)], hS.later (Below.refl _ _).drew⟩
  case fin =>
    intro L a u hL hI
    have h1 := hL 3 (by decide)
    rw [hI.n3] at h1
    cases h1
  case wf =>
    have h : AllFrom (fun i o => ∀ e ∈ o.after, e.on < i) 0 (opsOf Try.f86 8).toList := by
      refine ⟨by simp, by simp, by simp, by simp, by simp, by simp, by simp, trivial⟩
    intro i o e ho he _
    have := allFrom_at h i o (by simpa using ho) e he
    omega
  case step =>
    have h : AllFrom (fun k p => p.guard = none ∧ ∀ L a u, Inv8b w s B Y R d i o A act L a u → L k = false → (∀ e ∈ p.after, Region.binds .any e = true → L e.on = true) → p.wp Try.prog a u (fun a' w' => Inv8b w s B Y R d i o A act (more L k) a' w') Q) 0 (opsOf Try.f86 8).toList := by
      refine ⟨⟨rfl, fun L a u hI hk hE => ?s0⟩, ⟨rfl, fun L a u hI hk hE => ?s1⟩, ⟨rfl, fun L a u hI hk hE => ?s2⟩, ⟨rfl, fun L a u hI hk hE => ?s3⟩, ⟨rfl, fun L a u hI hk hE => ?s4⟩, ⟨rfl, fun L a u hI hk hE => ?s5⟩, ⟨rfl, fun L a u hI hk hE => ?s6⟩, trivial⟩
      case s0 =>
        have hsz' : a.tmps.size = 52 := hI.fr.1
        refine Oper.wp_mono ?_ (ob_load4 (r := fun v _ => v = setV A) rfl ((fr8_T hI.fr (by omega)).trans hT5) hI.s0.all rfl)
        rintro a' w' ⟨v, rfl, hbel, rfl⟩
        exact ⟨hI.fr.put (by decide) (by decide) _, by simp [more, hI.n3], by simp [more, hI.n4], by simp [more, hI.n5], fun h => (T_put' (by decide)).trans (hI.v1 (by simpa [more] using h)), fun h => (T_put' (by decide)).trans (hI.v2 (by simpa [more] using h)), hI.s0.later hbel⟩
      case s1 =>
        have hsz' : a.tmps.size = 52 := hI.fr.1
        refine Oper.wp_mono ?_ (ob_move (r := fun v _ => v = .pointer (some ⟨B, 0, none⟩)) rfl ((fr8_T hI.fr (by omega)).trans hT0) rfl)
        rintro a' w' ⟨v, rfl, hbel, rfl⟩
        exact ⟨hI.fr.put (by decide) (by decide) _, by simp [more, hI.n3], by simp [more, hI.n4], by simp [more, hI.n5], fun _ => T_put (by omega), fun h => (T_put' (by decide)).trans (hI.v2 (by simpa [more] using h)), hI.s0.later hbel⟩
      case s2 =>
        have hsz' : a.tmps.size = 52 := hI.fr.1
        refine Oper.wp_mono ?_ (ob_move (r := fun v _ => v = .int .i64 (o : Nat)) rfl ((fr8_T hI.fr (by omega)).trans hT3) rfl)
        rintro a' w' ⟨v, rfl, hbel, rfl⟩
        exact ⟨hI.fr.put (by decide) (by decide) _, by simp [more, hI.n3], by simp [more, hI.n4], by simp [more, hI.n5], fun h => (T_put' (by decide)).trans (hI.v1 (by simpa [more] using h)), fun _ => T_put (by omega), hI.s0.later hbel⟩
      case s3 =>
        have hx1 := hI.v1 (hE ⟨1, .data⟩ (by simp) rfl)
        have hx2 := hI.v2 (hE ⟨2, .data⟩ (by simp) rfl)
        refine ob_call2any rfl enters69 hx1 hx2 ((item_walk B o i d s u hI.s0.rd hi hs hI.s0.gm).mono ?_)
        intro e w' hr
        rw [hit] at hr
        obtain ⟨rfl, hg⟩ := hr
        exact .inr ⟨_, rfl, K a w' hI.fr.2.1 (grown_trans hI.s0.grown hg)⟩
      case s4 =>
        have h1 : L 3 = true := hE ⟨3, .data⟩ (by simp) rfl
        rw [hI.n3] at h1
        cases h1
      case s5 =>
        have h1 : L 4 = true := hE ⟨4, .data⟩ (by simp) rfl
        rw [hI.n4] at h1
        cases h1
      case s6 =>
        have h1 : L 5 = true := hE ⟨5, .data⟩ (by simp) rfl
        rw [hI.n5] at h1
        cases h1
    intro k p hp
    have := allFrom_at h k p (by simpa using hp)
    rwa [Nat.zero_add] at this
/-! ### the newline taken out -/
def Fr12 (act a : Act) : Prop := a.tmps.size = 52 ∧ a.defers = act.defers ∧ ∀ k, k < 49 → a.tmps[k]? = act.tmps[k]?
theorem Fr12.put {act a : Act} (h : Fr12 act a) {k : Nat} (hd : 49 ≤ k) (v : Value) : Fr12 act (a.put (some k) v) := by
  refine ⟨by simpa [Act.put] using h.1, by simpa [Act.put] using h.2.1, fun j hj => ?_⟩
  rw [← h.2.2 j hj]
  simp only [Act.put]
  exact Array.getElem?_setIfInBounds_ne (by omega)
theorem fr12_T {act a : Act} (h : Fr12 act a) {k : Nat} (hk : k < 49) : T a k = T act k := by unfold T; rw [h.2.2 k hk]
theorem enters64 : Enters 87 := fun args w => by simp [go_sem]
theorem Sx.putR {w : World} {s : ByteArray} {B Y R d : Nat} {u : World} {i : Nat} {A : Oct.S} (h : Sx w s B Y R d u i A) (t : Oct.S) : SB (put4 u R t) R t ∧ RB (put4 u R t) B s i d ∧ w.grownBy (put4 u R t) (some B) :=
  ⟨h.res.put4 t, rb_put4 h.rd (by have := h.hR; have := h.hB; omega) t, grown_put4 h.grown h.hR t⟩
structure Inv12 (w : World) (s : ByteArray) (B Y R d : Nat) (i : Nat) (A : Oct.S) (act : Act) (L : Nat → Bool) (a : Act) (u : World) : Prop where
  fr : Fr12 act a
  o2 : L 2 = true → L 0 = true ∧ L 1 = true
  o3 : L 3 = true → L 2 = true
  v0 : L 0 = true → T a 49 = setV A
  v1 : L 1 = true → T a 50 = setV ordinary
  v2 : L 2 = true → T a 51 = setV (Oct.meet A ordinary)
  s0 : L 3 = false → Sx w s B Y R d u i A
  s3 : L 3 = true → SB u R (Oct.meet A ordinary) ∧ RB u B s i d ∧ w.grownBy u (some B)
set_option maxRecDepth 20000 in
theorem ob_call0 {o : Oper} {a : Act} {w : World} {r : Value → World → Prop} {Q : Exit → Act → World → Prop} {f : Nat} {ts : Array TypeId} (ho : o.op = .call { callee := .value (.func f), args := #[], argTypes := ts }) (hf : Enters f) (hc : Calls Try.prog f #[] w fun e w' => ∃ v, e = .returned v ∧ Below w.heap.size w w' ∧ r v w') : o.wp Try.prog a w (Leaves r o a w) Q := by
  obtain ⟨dst, op, type, pos, after, guard⟩ := o
  simp only at ho
  subst ho
  refine ob_enter (args := #[]) ?_ hc
  simp [go_sem]
  exact hf _ _
set_option maxRecDepth 100000 in
theorem reg12 {act : Act} {w : World} {s : ByteArray} {B Y R d : Nat} {W : World} {i : Nat} {A : Oct.S} {Q : Exit → Act → World → Prop} (hT2 : T act 2 = .pointer (some ⟨R, 0, none⟩)) (hT5 : T act 5 = .pointer (some ⟨Y, 0, none⟩)) (hsz : act.tmps.size = 52)
    (hS : Sx w s B Y R d W i A)
    (K : ∀ a' W', Fr12 act a' → SB W' R (Oct.meet A ordinary) → RB W' B s i d → w.grownBy W' (some B) → Q .normal a' W') : (Code.region 12 (opsOf Try.f86 12) true).wp Try.prog Q act W := by
  refine wp_region_inv (by kernel_rfl) (Inv12 w s B Y R d i A act) ?wf ?step ?fin ?zero
  case zero =>
    intro L hL
    have h0 := hL 0 (by decide)
    have h1 := hL 1 (by decide)
    have h2 := hL 2 (by decide)
    have h3 := hL 3 (by decide)
    exact ⟨⟨hsz, rfl, fun _ _ => rfl⟩, by simp [h2], by simp [h3], by simp [h0], by simp [h1], by simp [h2], fun _ => hS.later (Below.refl _ _).drew, by simp [h3]⟩
  case fin =>
    intro L a u hL hI
    obtain ⟨h1, h2, h3⟩ := hI.s3 (hL 3 (by decide))
    exact K a u hI.fr h1 h2 h3
  case wf =>
    have h : AllFrom (fun i o => ∀ e ∈ o.after, e.on < i) 0 (opsOf Try.f86 12).toList := by
      refine ⟨by simp, by simp, by simp, by simp, trivial⟩
    intro i o e ho he _
    have := allFrom_at h i o (by simpa using ho) e he
    omega
  case step =>
    have h : AllFrom (fun k p => p.guard = none ∧ ∀ L a u, Inv12 w s B Y R d i A act L a u → L k = false → (∀ e ∈ p.after, Region.binds .any e = true → L e.on = true) → p.wp Try.prog a u (fun a' w' => Inv12 w s B Y R d i A act (more L k) a' w') Q) 0 (opsOf Try.f86 12).toList := by
      refine ⟨⟨rfl, fun L a u hI hk hE => ?s0⟩, ⟨rfl, fun L a u hI hk hE => ?s1⟩, ⟨rfl, fun L a u hI hk hE => ?s2⟩, ⟨rfl, fun L a u hI hk hE => ?s3⟩, trivial⟩
      case s0 =>
        have hk : L 0 = false := hk
        have hsz' : a.tmps.size = 52 := hI.fr.1
        have h2 : L 2 = false := by
          cases h : L 2 with
          | false => rfl
          | true => have h2 := hI.o2 h; rw [hk] at h2; cases h2.1
        have h3 : L 3 = false := by
          cases h : L 3 with
          | false => rfl
          | true => have h4 := hI.o3 h; rw [h2] at h4; cases h4
        refine Oper.wp_mono ?_ (ob_load4 (r := fun v _ => v = setV A) rfl ((fr12_T hI.fr (by omega)).trans hT5) (hI.s0 h3).all rfl)
        rintro a' w' ⟨v, rfl, hbel, rfl⟩
        exact ⟨hI.fr.put (by decide) _, fun h => by simp [more, h2] at h, fun h => by simp [more, h3] at h, fun _ => T_put (by omega), fun h => (T_put' (by decide)).trans (hI.v1 (by simpa [more] using h)), fun h => by simp [more, h2] at h, fun _ => (hI.s0 h3).later hbel, fun h => by simp [more, h3] at h⟩
      case s1 =>
        have hk : L 1 = false := hk
        have hsz' : a.tmps.size = 52 := hI.fr.1
        have h2 : L 2 = false := by
          cases h : L 2 with
          | false => rfl
          | true => have h2 := hI.o2 h; rw [hk] at h2; cases h2.2
        have h3 : L 3 = false := by
          cases h : L 3 with
          | false => rfl
          | true => have h4 := hI.o3 h; rw [h2] at h4; cases h4
        refine Oper.wp_mono ?_ (ob_call0 (r := fun v _ => v = setV ordinary) rfl enters64 ((ordinary_any u).mono (fun _ w' h => ⟨_, h.1, h.2, rfl⟩)))
        rintro a' w' ⟨v, rfl, hbel, rfl⟩
        exact ⟨hI.fr.put (by decide) _, fun h => by simp [more, h2] at h, fun h => by simp [more, h3] at h, fun h => (T_put' (by decide)).trans (hI.v0 (by simpa [more] using h)), fun _ => T_put (by omega), fun h => by simp [more, h2] at h, fun _ => (hI.s0 h3).later hbel, fun h => by simp [more, h3] at h⟩
      case s2 =>
        have hk : L 2 = false := hk
        have hsz' : a.tmps.size = 52 := hI.fr.1
        have h3 : L 3 = false := by
          cases h : L 3 with
          | false => rfl
          | true => have h4 := hI.o3 h; rw [hk] at h4; cases h4
        have e0 : L 0 = true := hE ⟨0, .data⟩ (by simp) rfl
        have e1 : L 1 = true := hE ⟨1, .data⟩ (by simp) rfl
        refine Oper.wp_mono ?_ (ob_call2 (r := fun v _ => v = setV (Oct.meet A ordinary)) rfl enters72 (hI.v0 e0) (hI.v1 e1) ((meet_any A ordinary u).mono (fun _ w' h => ⟨_, h.1, h.2, rfl⟩)))
        rintro a' w' ⟨v, rfl, hbel, rfl⟩
        exact ⟨hI.fr.put (by decide) _, fun _ => ⟨by simp [more, e0], by simp [more, e1]⟩, fun h => by simp [more, h3] at h, fun h => (T_put' (by decide)).trans (hI.v0 (by simpa [more] using h)), fun h => (T_put' (by decide)).trans (hI.v1 (by simpa [more] using h)), fun _ => T_put (by omega), fun _ => (hI.s0 h3).later hbel, fun h => by simp [more, h3] at h⟩
      case s3 =>
        have hk : L 3 = false := hk
        have e2 : L 2 = true := hE ⟨2, .data⟩ (by simp) rfl
        have hS0 := hI.s0 hk
        have hv := hI.v2 e2
        have hp := (fr12_T hI.fr (k := 2) (by omega)).trans hT2
        obtain ⟨c0, c1, c2, c3⟩ := hS0.res.cells
        have f0 := hS0.res.frozen 0
        have f1 := hS0.res.frozen 1
        have f2 := hS0.res.frozen 2
        have f3 := hS0.res.frozen 3
        refine ob_skip (w' := put4 u R (Oct.meet A ordinary)) ?_ ?_
        · unfold T at hv hp
          unfold setV at hv
          simp [execOp, Act.eval, hv, hp, go_sem, c0, c1, c2, c3, f0, f1, f2, f3, put4]
        · exact ⟨hI.fr, fun h => by have h2 := hI.o2 (by simpa [more] using h); exact ⟨by simp [more, h2.1], by simp [more, h2.2]⟩, fun _ => by simp [more, e2], fun h => hI.v0 (by simpa [more] using h), fun h => hI.v1 (by simpa [more] using h), fun h => hI.v2 (by simpa [more] using h), fun h => by simp [more] at h, fun _ => hS0.putR _⟩
    intro k p hp
    have := allFrom_at h k p (by simpa using hp)
    rwa [Nat.zero_add] at this
end Go.Proofs.Ytjmbimgofceanaa
