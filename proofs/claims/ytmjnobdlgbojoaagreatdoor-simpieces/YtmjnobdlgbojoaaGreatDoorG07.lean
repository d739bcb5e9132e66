
import Derived.Test.YtmjnobdlgbojoaaGreatDoorG06
namespace Go.Proofs.YtmjnobdlgbojoaaGreatDoor
open Go Go.RowKit
structure Inv8b (w : World) (s : ByteArray) (B Y R d : Nat) (i o : Nat) (A : Oct.S) (act : Act) (L : Nat → Bool) (a : Act) (u : World) : Prop where
  fr : Fr8 act a
  n3 : L 3 = false
  n4 : L 4 = false
  n5 : L 5 = false
  v1 : L 1 = true → T a 34 = .pointer (some ⟨B, 0, none⟩)
  v2 : L 2 = true → T a 35 = .int .i64 (o : Nat)
  s0 : Sx w s B Y R d u i A
set_option maxRecDepth 100000 in
theorem reg8_bad {act : Act} {w : World} {s : ByteArray} {B Y R d : Nat} {W : World} {i o : Nat} {A : Oct.S} {x c : Nat} {Q : Exit → Act → World → Prop} (hT0 : T act 0 = .pointer (some ⟨B, 0, none⟩)) (hT3 : T act 3 = .int .i64 (o : Nat)) (hT5 : T act 5 = .pointer (some ⟨Y, 0, none⟩)) (hsz : act.tmps.size = 52)
    (hS : Sx w s B Y R d W i A) (hi : i ≤ s.size) (hs : s.size ≤ 1024) (hit : item s o i = .bad x c)
    (K : ∀ a' W', a'.defers = act.defers → w.grownBy W' (some B) → Q (.panic [{ v := flt x c, recovered := false }]) a' W') : (Code.region 8 (opsOf Tryz.f89 8) true).wp Tryz.prog Q act W := by
  refine wp_region_inv (by kernel_rfl) (Inv8b w s B Y R d i o A act) ?wf ?step ?fin ?zero
  case zero =>
    intro L hL
    exact ⟨⟨hsz, rfl, fun _ _ => rfl⟩, hL 3 (by decide), hL 4 (by decide), hL 5 (by decide), by simp [hL 1 (by decide)], by simp [hL 2 (by decide)], hS.later (Below.refl _ _).drew⟩
  case fin =>
    intro L a u hL hI
    have h1 := hL 3 (by decide)
    rw [hI.n3] at h1
    cases h1
  case wf =>
    have h : AllFrom (fun i o => ∀ e ∈ o.after, e.on < i) 0 (opsOf Tryz.f89 8).toList := by
      refine ⟨by simp, by simp, by simp, by simp, by simp, by simp, by simp, trivial⟩
    intro i o e ho he _
    have := allFrom_at h i o (by simpa using ho) e he
    omega
  case step =>
    have h : AllFrom (fun k p => p.guard = none ∧ ∀ L a u, Inv8b w s B Y R d i o A act L a u → L k = false → (∀ e ∈ p.after, Region.binds .any e = true → L e.on = true) → p.wp Tryz.prog a u (fun a' w' => Inv8b w s B Y R d i o A act (more L k) a' w') Q) 0 (opsOf Tryz.f89 8).toList := by
      refine ⟨⟨rfl, fun L a u hI hk hE => ?s0⟩, ⟨rfl, fun L a u hI hk hE => ?s1⟩, ⟨rfl, fun L a u hI hk hE => ?s2⟩, ⟨rfl, fun L a u hI hk hE => ?s3⟩, ⟨rfl, fun L a u hI hk hE => ?s4⟩, ⟨rfl, fun L a u hI hk hE => ?s5⟩, ⟨rfl, fun L a u hI hk hE => ?s6⟩, trivial⟩
      case s0 =>
        have hsz' : a.tmps.size = 52 := hI.fr.1
        refine Oper.wp_mono ?_ (ob_load4 (r := fun v _ => v = setV A) rfl ((fr8_T hI.fr (by omega)).trans hT5) hI.s0.all rfl)
        rintro a' w' ⟨v, rfl, hbel, rfl⟩
        exact ⟨hI.fr.put (by decide) (by decide) _, by simp [more, hI.n3], by simp [more, hI.n4], by simp [more, hI.n5], fun h => (T_put' (by decide)).trans (hI.v1 (by simpa [more] using h)), fun h => (T_put' (by decide)).trans (hI.v2 (by simpa [more] using h)), hI.s0.later hbel⟩
      case s1 =>
        have hsz' : a.tmps.size = 52 := hI.fr.1
        refine Oper.wp_mono ?_ (ob_move (r := fun v _ => v = .pointer (some ⟨B, 0, none⟩)) rfl ((fr8_T hI.fr (by omega)).trans hT0) rfl)
        rintro a' w' ⟨v, rfl, hbel, rfl⟩
        exact ⟨hI.fr.put (by decide) (by decide) _, by simp [more, hI.n3], by simp [more, hI.n4], by simp [more, hI.n5], fun _ => T_put (by omega), fun h => (T_put' (by decide)).trans (hI.v2 (by simpa [more] using h)), hI.s0.later hbel⟩
      case s2 =>
        have hsz' : a.tmps.size = 52 := hI.fr.1
        refine Oper.wp_mono ?_ (ob_move (r := fun v _ => v = .int .i64 (o : Nat)) rfl ((fr8_T hI.fr (by omega)).trans hT3) rfl)
        rintro a' w' ⟨v, rfl, hbel, rfl⟩
        exact ⟨hI.fr.put (by decide) (by decide) _, by simp [more, hI.n3], by simp [more, hI.n4], by simp [more, hI.n5], fun h => (T_put' (by decide)).trans (hI.v1 (by simpa [more] using h)), fun _ => T_put (by omega), hI.s0.later hbel⟩
      case s3 =>
        have hx1 := hI.v1 (hE ⟨1, .data⟩ (by simp) rfl)
        have hx2 := hI.v2 (hE ⟨2, .data⟩ (by simp) rfl)
        refine ob_call2any rfl enters69 hx1 hx2 ((item_walk B o i d s u hI.s0.rd hi hs hI.s0.gm).mono ?_)
        intro e w' hr
        rw [hit] at hr
        obtain ⟨rfl, hg⟩ := hr
        exact .inr ⟨_, rfl, K a w' hI.fr.2.1 (grown_trans hI.s0.grown hg)⟩
      case s4 =>
        have h1 : L 3 = true := hE ⟨3, .data⟩ (by simp) rfl
        rw [hI.n3] at h1
        cases h1
      case s5 =>
        have h1 : L 4 = true := hE ⟨4, .data⟩ (by simp) rfl
        rw [hI.n4] at h1
        cases h1
      case s6 =>
        have h1 : L 5 = true := hE ⟨5, .data⟩ (by simp) rfl
        rw [hI.n5] at h1
        cases h1
    intro k p hp
    have := allFrom_at h k p (by simpa using hp)
    rwa [Nat.zero_add] at this
def Fr12 (act a : Act) : Prop := a.tmps.size = 52 ∧ a.defers = act.defers ∧ ∀ k, k < 49 → a.tmps[k]? = act.tmps[k]?
theorem Fr12.put {act a : Act} (h : Fr12 act a) {k : Nat} (hd : 49 ≤ k) (v : Value) : Fr12 act (a.put (some k) v) := by
  refine ⟨by simpa [Act.put] using h.1, by simpa [Act.put] using h.2.1, fun j hj => ?_⟩
  rw [← h.2.2 j hj]
  simp only [Act.put]
  exact Array.getElem?_setIfInBounds_ne (by omega)
theorem fr12_T {act a : Act} (h : Fr12 act a) {k : Nat} (hk : k < 49) : T a k = T act k := by unfold T; rw [h.2.2 k hk]
theorem enters64 : Enters 90 := fun args w => by simp [go_sem]
theorem Sx.putR {w : World} {s : ByteArray} {B Y R d : Nat} {u : World} {i : Nat} {A : Oct.S} (h : Sx w s B Y R d u i A) (t : Oct.S) : SB (put4 u R t) R t ∧ RB (put4 u R t) B s i d ∧ w.grownBy (put4 u R t) (some B) :=
  ⟨h.res.put4 t, rb_put4 h.rd (by have := h.hR; have := h.hB; omega) t, grown_put4 h.grown h.hR t⟩
structure Inv12 (w : World) (s : ByteArray) (B Y R d : Nat) (i : Nat) (A : Oct.S) (act : Act) (L : Nat → Bool) (a : Act) (u : World) : Prop where
  fr : Fr12 act a
  o2 : L 2 = true → L 0 = true ∧ L 1 = true
  o3 : L 3 = true → L 2 = true
  v0 : L 0 = true → T a 49 = setV A
  v1 : L 1 = true → T a 50 = setV ordinary
  v2 : L 2 = true → T a 51 = setV (Oct.meet A ordinary)
  s0 : L 3 = false → Sx w s B Y R d u i A
  s3 : L 3 = true → SB u R (Oct.meet A ordinary) ∧ RB u B s i d ∧ w.grownBy u (some B)
set_option maxRecDepth 20000 in
theorem ob_call0 {o : Oper} {a : Act} {w : World} {r : Value → World → Prop} {Q : Exit → Act → World → Prop} {f : Nat} {ts : Array TypeId} (ho : o.op = .call { callee := .value (.func f), args := #[], argTypes := ts }) (hf : Enters f) (hc : Calls Tryz.prog f #[] w fun e w' => ∃ v, e = .returned v ∧ Below w.heap.size w w' ∧ r v w') : o.wp Tryz.prog a w (Leaves r o a w) Q := by
  obtain ⟨dst, op, type, pos, after, guard⟩ := o
  simp only at ho
  subst ho
  refine ob_enter (args := #[]) ?_ hc
  simp [go_sem]
  exact hf _ _
set_option maxRecDepth 100000 in
theorem reg12 {act : Act} {w : World} {s : ByteArray} {B Y R d : Nat} {W : World} {i : Nat} {A : Oct.S} {Q : Exit → Act → World → Prop} (hT2 : T act 2 = .pointer (some ⟨R, 0, none⟩)) (hT5 : T act 5 = .pointer (some ⟨Y, 0, none⟩)) (hsz : act.tmps.size = 52)
    (hS : Sx w s B Y R d W i A)
    (K : ∀ a' W', Fr12 act a' → SB W' R (Oct.meet A ordinary) → RB W' B s i d → w.grownBy W' (some B) → Q .normal a' W') : (Code.region 12 (opsOf Tryz.f89 12) true).wp Tryz.prog Q act W := by
  refine wp_region_inv (by kernel_rfl) (Inv12 w s B Y R d i A act) ?wf ?step ?fin ?zero
  case zero =>
    intro L hL
    have h0 := hL 0 (by decide)
    have h1 := hL 1 (by decide)
    have h2 := hL 2 (by decide)
    have h3 := hL 3 (by decide)
    exact ⟨⟨hsz, rfl, fun _ _ => rfl⟩, by simp [h2], by simp [h3], by simp [h0], by simp [h1], by simp [h2], fun _ => hS.later (Below.refl _ _).drew, by simp [h3]⟩
  case fin =>
    intro L a u hL hI
    obtain ⟨h1, h2, h3⟩ := hI.s3 (hL 3 (by decide))
    exact K a u hI.fr h1 h2 h3
  case wf =>
    have h : AllFrom (fun i o => ∀ e ∈ o.after, e.on < i) 0 (opsOf Tryz.f89 12).toList := by
      refine ⟨by simp, by simp, by simp, by simp, trivial⟩
    intro i o e ho he _
    have := allFrom_at h i o (by simpa using ho) e he
    omega
  case step =>
    have h : AllFrom (fun k p => p.guard = none ∧ ∀ L a u, Inv12 w s B Y R d i A act L a u → L k = false → (∀ e ∈ p.after, Region.binds .any e = true → L e.on = true) → p.wp Tryz.prog a u (fun a' w' => Inv12 w s B Y R d i A act (more L k) a' w') Q) 0 (opsOf Tryz.f89 12).toList := by
      refine ⟨⟨rfl, fun L a u hI hk hE => ?s0⟩, ⟨rfl, fun L a u hI hk hE => ?s1⟩, ⟨rfl, fun L a u hI hk hE => ?s2⟩, ⟨rfl, fun L a u hI hk hE => ?s3⟩, trivial⟩
      case s0 =>
        have hk : L 0 = false := hk
        have hsz' : a.tmps.size = 52 := hI.fr.1
        have h2 : L 2 = false := by
          cases h : L 2 with
          | false => rfl
          | true => have h2 := hI.o2 h; rw [hk] at h2; cases h2.1
        have h3 : L 3 = false := by
          cases h : L 3 with
          | false => rfl
          | true => have h4 := hI.o3 h; rw [h2] at h4; cases h4
        refine Oper.wp_mono ?_ (ob_load4 (r := fun v _ => v = setV A) rfl ((fr12_T hI.fr (by omega)).trans hT5) (hI.s0 h3).all rfl)
        rintro a' w' ⟨v, rfl, hbel, rfl⟩
        exact ⟨hI.fr.put (by decide) _, fun h => by simp [more, h2] at h, fun h => by simp [more, h3] at h, fun _ => T_put (by omega), fun h => (T_put' (by decide)).trans (hI.v1 (by simpa [more] using h)), fun h => by simp [more, h2] at h, fun _ => (hI.s0 h3).later hbel, fun h => by simp [more, h3] at h⟩
      case s1 =>
        have hk : L 1 = false := hk
        have hsz' : a.tmps.size = 52 := hI.fr.1
        have h2 : L 2 = false := by
          cases h : L 2 with
          | false => rfl
          | true => have h2 := hI.o2 h; rw [hk] at h2; cases h2.2
        have h3 : L 3 = false := by
          cases h : L 3 with
          | false => rfl
          | true => have h4 := hI.o3 h; rw [h2] at h4; cases h4
        refine Oper.wp_mono ?_ (ob_call0 (r := fun v _ => v = setV ordinary) rfl enters64 ((ordinary_any u).mono (fun _ w' h => ⟨_, h.1, h.2, rfl⟩)))
        rintro a' w' ⟨v, rfl, hbel, rfl⟩
        exact ⟨hI.fr.put (by decide) _, fun h => by simp [more, h2] at h, fun h => by simp [more, h3] at h, fun h => (T_put' (by decide)).trans (hI.v0 (by simpa [more] using h)), fun _ => T_put (by omega), fun h => by simp [more, h2] at h, fun _ => (hI.s0 h3).later hbel, fun h => by simp [more, h3] at h⟩
      case s2 =>
        have hk : L 2 = false := hk
        have hsz' : a.tmps.size = 52 := hI.fr.1
        have h3 : L 3 = false := by
          cases h : L 3 with
          | false => rfl
          | true => have h4 := hI.o3 h; rw [hk] at h4; cases h4
        have e0 : L 0 = true := hE ⟨0, .data⟩ (by simp) rfl
        have e1 : L 1 = true := hE ⟨1, .data⟩ (by simp) rfl
        refine Oper.wp_mono ?_ (ob_call2 (r := fun v _ => v = setV (Oct.meet A ordinary)) rfl enters72 (hI.v0 e0) (hI.v1 e1) ((meet_any A ordinary u).mono (fun _ w' h => ⟨_, h.1, h.2, rfl⟩)))
        rintro a' w' ⟨v, rfl, hbel, rfl⟩
        exact ⟨hI.fr.put (by decide) _, fun _ => ⟨by simp [more, e0], by simp [more, e1]⟩, fun h => by simp [more, h3] at h, fun h => (T_put' (by decide)).trans (hI.v0 (by simpa [more] using h)), fun h => (T_put' (by decide)).trans (hI.v1 (by simpa [more] using h)), fun _ => T_put (by omega), fun _ => (hI.s0 h3).later hbel, fun h => by simp [more, h3] at h⟩
      case s3 =>
        have hk : L 3 = false := hk
        have e2 : L 2 = true := hE ⟨2, .data⟩ (by simp) rfl
        have hS0 := hI.s0 hk
        have hv := hI.v2 e2
        have hp := (fr12_T hI.fr (k := 2) (by omega)).trans hT2
        obtain ⟨c0, c1, c2, c3⟩ := hS0.res.cells
        have f0 := hS0.res.frozen 0
        have f1 := hS0.res.frozen 1
        have f2 := hS0.res.frozen 2
        have f3 := hS0.res.frozen 3
        refine ob_skip (w' := put4 u R (Oct.meet A ordinary)) ?_ ?_
        · unfold T at hv hp
          unfold setV at hv
          simp [execOp, Act.eval, hv, hp, go_sem, c0, c1, c2, c3, f0, f1, f2, f3, put4]
        · exact ⟨hI.fr, fun h => by have h2 := hI.o2 (by simpa [more] using h); exact ⟨by simp [more, h2.1], by simp [more, h2.2]⟩, fun _ => by simp [more, e2], fun h => hI.v0 (by simpa [more] using h), fun h => hI.v1 (by simpa [more] using h), fun h => hI.v2 (by simpa [more] using h), fun h => by simp [more] at h, fun _ => hS0.putR _⟩
    intro k p hp
    have := allFrom_at h k p (by simpa using hp)
    rwa [Nat.zero_add] at this
end Go.Proofs.YtmjnobdlgbojoaaGreatDoor


namespace Go.Proofs.YtmjnobdlgbojoaaGreatDoor
open Go.RowKit
attribute [local go_sem ↓] Go.wp_at_zero Go.wp_at_succ
theorem fr8_lit {act a : Act} (h : Fr8 act a) (hs : act.tmps.size = 52) : a = (((((act.put (some 33) (T a 33)).put (some 34) (T a 34)).put (some 35) (T a 35)).put (some 36) (T a 36)).put (some 37) (T a 37)).put (some 38) (T a 38) := by
  obtain ⟨h1, h2, h3⟩ := h
  obtain ⟨tmps, defers⟩ := a
  simp only at h1 h2 h3
  simp only [Act.put, Act.mk.injEq]
  refine ⟨?_, h2⟩
  apply Array.ext_getElem?
  intro k
  have hT : ∀ j, j < 52 → tmps[j]? = some (T ⟨tmps, defers⟩ j) := fun j hj => by
    have : j < tmps.size := by omega
    simp [T, this]
  by_cases hk : k < 33 ∨ 39 ≤ k
  · rw [h3 k hk, Array.getElem?_setIfInBounds_ne (by omega), Array.getElem?_setIfInBounds_ne (by omega), Array.getElem?_setIfInBounds_ne (by omega), Array.getElem?_setIfInBounds_ne (by omega), Array.getElem?_setIfInBounds_ne (by omega), Array.getElem?_setIfInBounds_ne (by omega)]
  · have hk' : k = 33 ∨ k = 34 ∨ k = 35 ∨ k = 36 ∨ k = 37 ∨ k = 38 := by omega
    rcases hk' with rfl | rfl | rfl | rfl | rfl | rfl <;> rw [hT _ (by decide)] <;> simp [hs]
def setEnd (s : ByteArray) (i : Nat) (r : Rs Oct.S) : Rs Oct.S :=
  match r with
  | .ok b k => .ok (if sees s (i + 1) 94 then Oct.inv b else Oct.meet b ordinary) k
  | .bad a e => .bad a e
  | .out => .out
theorem setOf_eq (s : ByteArray) (f i : Nat) : setOf s f i = match item s i (if sees s (i + 1) 94 then i + 2 else i + 1) with
  | .ok a j => setEnd s i (setLoop s i f a j)
  | .bad a e => .bad a e
  | .out => .out := by
  unfold setOf setEnd
  rfl
set_option maxRecDepth 4000 in
set_option maxHeartbeats 4000000 in
theorem set_walk (B i d f : Nat) (s : ByteArray) (w : World) (h : RB w B s i d) (hi : i < s.size) (hs : s.size ≤ 1024) (hm : GM w) (hB0 : 2 ≤ B) (hout : setOf s f i ≠ .out) : Calls Tryz.prog 89 #[.pointer (some ⟨B, 0, none⟩)] w (Reads w B s d (setOf s f i) SetV) := by
  have HO : Hid (setOf s f i ≠ .out) := hout
  have hBlt := h.lt
  have HZ0 : Hid (SB (w.alloc (.cells #[.int .u64 0, .int .u64 0, .int .u64 0, .int .u64 0] 28)) w.heap.size Oct.none) := sb_zero w
  have hal : Below w.heap.size w (w.alloc (.cells #[.int .u64 0, .int .u64 0, .int .u64 0, .int .u64 0] 28)) := (Below.refl _ _).alloc (Nat.le_refl _) _
  have HR1 : Hid (RB (w.alloc (.cells #[.int .u64 0, .int .u64 0, .int .u64 0, .int .u64 0] 28)) B s i d) := h.later hal
  have HM1 : Hid (GM (w.alloc (.cells #[.int .u64 0, .int .u64 0, .int .u64 0, .int .u64 0] 28))) := hm.later hal
  have HBR : Hid (w.heap.size ≠ B) := by show _ ≠ _; omega
  obtain ⟨w1, hw1⟩ : ∃ w1, w1 = w.alloc (.cells #[.int .u64 0, .int .u64 0, .int .u64 0, .int .u64 0] 28) := ⟨_, rfl⟩
  have HG1 : Hid (w.grownBy w1 (some B)) := by rw [hw1]; exact grown_alloc _ _ _
  rw [← hw1] at HR1 HZ0 HM1
  have HW1 : Hid (w1 = _) := hw1
  clear hw1 h hal hm hout
  obtain ⟨R, hR⟩ : ∃ R, R = w.heap.size := ⟨_, rfl⟩
  rw [← hR] at HZ0 HBR
  have HRR : Hid (R = _) := hR
  have HBL : Hid (B < w.heap.size) := hBlt
  have HB0 : Hid (2 ≤ B) := hB0
  clear hR hBlt hB0
  obtain ⟨c0, c1, c2⟩ := HR1.out.cells
  have f1 := HR1.out.frozen 1
  have hi3 : i ≤ 1024 := by omega
  have HR2 : Hid (RB (w1.setCell ⟨B, 1, none⟩ (.int .i64 ((i : Int) + 1))) B s (i + 1) d) := HR1.out.at (i + 1)
  have HZ2 : Hid (SB (w1.setCell ⟨B, 1, none⟩ (.int .i64 ((i : Int) + 1))) R Oct.none) := HZ0.out.other HBR.out _ _
  have HM2 : Hid (GM (w1.setCell ⟨B, 1, none⟩ (.int .i64 ((i : Int) + 1)))) := gm_other HM1.out HB0.out _ _
  have HG2 : Hid (w.grownBy (w1.setCell ⟨B, 1, none⟩ (.int .i64 ((i : Int) + 1))) (some B)) := grown_trans HG1.out (grown_set _ _ _ _)
  go_enter Tryz.func89, Tryz.ntmps89
  go_upto_region 1 with fail
  rw [← HW1.out, ← HRR.out]
  clear HW1
  go_wp2_with fail
  obtain ⟨w2, hw2⟩ : ∃ w2, w2 = w1.setCell ⟨B, 1, none⟩ (.int .i64 ((i : Int) + 1)) := ⟨_, rfl⟩
  rw [← hw2] at HR2 HZ2 HM2 HG2 ⊢
  clear hw2 c0 c1 c2 f1 HR1 HZ0 HM1 HG1
  refine (sees_any B (i + 1) d 94 s w2 HR2.out (by omega)).mono ?_
  rintro e w3 ⟨rfl, k3⟩
  have HR3 : Hid (RB w3 B s (i + 1) d) := HR2.out.later k3
  have HZ3 : Hid (SB w3 R Oct.none) := HZ2.out.later k3
  have HM3 : Hid (GM w3) := HM2.out.later k3
  have HG3 : Hid (w.grownBy w3 (some B)) := grown_below HG2.out k3
  clear k3 HR2 HZ2 HM2 HG2
  obtain ⟨oth, hoth⟩ : ∃ oth, oth = sees s (i + 1) 94 := ⟨_, rfl⟩
  have HOT : Hid (oth = sees s (i + 1) 94) := hoth
  rw [← hoth]
  clear hoth
  cases hoth : oth with
  | true =>
    have hlt2 : i + 1 < s.size := by have h := HOT.out; rw [hoth] at h; unfold sees at h; simp at h; exact h.1
    rw [hoth] at HOT
    clear hoth
    obtain ⟨c0, c1, c2⟩ := HR3.out.cells
    have f1 := HR3.out.frozen 1
    have e1 : ((i : Int) + 1) = ((i + 1 : Nat) : Int) := by omega
    have HRw4 : Hid (RB (w3.setCell ⟨B, 1, none⟩ (.int .i64 ((i : Int) + 1 + 1))) B s (i + 2) d) := HR3.out.at (i + 2)
    have HZw4 : Hid (SB (w3.setCell ⟨B, 1, none⟩ (.int .i64 ((i : Int) + 1 + 1))) R Oct.none) := HZ3.out.other HBR.out _ _
    have HMw4 : Hid (GM (w3.setCell ⟨B, 1, none⟩ (.int .i64 ((i : Int) + 1 + 1)))) := gm_other HM3.out HB0.out _ _
    have HGw4 : Hid (w.grownBy (w3.setCell ⟨B, 1, none⟩ (.int .i64 ((i : Int) + 1 + 1))) (some B)) := grown_trans HG3.out (grown_set _ _ _ _)
    clear e1
    go_upto_region 6 with fail
    obtain ⟨w4, hw4⟩ : ∃ w4, w4 = w3.setCell ⟨B, 1, none⟩ (.int .i64 ((i : Int) + 1 + 1)) := ⟨_, rfl⟩
    rw [← hw4] at HRw4 HZw4 HMw4 HGw4 ⊢
    clear hw4 c0 c1 c2 f1 HR3 HZ3 HM3 HG3
    have HSO : Hid (setOf s f i = match item s i (i + 2) with
      | .ok a j => setEnd s i (setLoop s i f a j)
      | .bad a e => .bad a e
      | .out => .out) := by show _ = _; rw [setOf_eq, ← HOT.out]; rfl
    go_wp2_with fail
    refine (item_walk B i (i + 2) d s w4 HRw4.out (by omega) hs HMw4.out).mono ?_
    intro e w5 h5
    cases hc : item s i (i + 2) with
    | out => rw [hc] at h5; exact h5.elim
    | bad a c =>
      rw [hc] at h5 HSO
      obtain ⟨rfl, hg5⟩ := h5
      have HG5 : Hid (w.grownBy w5 (some B)) := grown_trans HGw4.out hg5
      clear hc hg5
      go_wp2
      refine ⟨rfl, ?_⟩
      unfold Reads
      rw [HSO.out]
      exact ⟨rfl, HG5.out⟩
    | ok A j =>
      rw [hc] at h5 HSO
      obtain ⟨hj, v, rfl, rfl, hr5, hg5⟩ := h5
      have hRlt := HZw4.out.lt
      have HZ5 : Hid (SB w5 R Oct.none) := (hg5.block R hRlt (by have := HBR.out; simp; exact this)).trans HZw4.out
      have HM5 : Hid (GM w5) := HMw4.out.grown hg5 HB0.out
      have HG5 : Hid (w.grownBy w5 (some B)) := grown_trans HGw4.out hg5
      have hal : Below w5.heap.size w5 (w5.alloc (.cells #[.int .u64 (Oct.word A 0 : Nat), .int .u64 (Oct.word A 1 : Nat), .int .u64 (Oct.word A 2 : Nat), .int .u64 (Oct.word A 3 : Nat)] 28)) := (Below.refl _ _).alloc (Nat.le_refl _) _
      have HS6 : Hid (Sx w s B w5.heap.size R d (w5.alloc (.cells #[.int .u64 (Oct.word A 0 : Nat), .int .u64 (Oct.word A 1 : Nat), .int .u64 (Oct.word A 2 : Nat), .int .u64 (Oct.word A 3 : Nat)] 28)) j A) :=
        ⟨sb_new w5 A, HZ5.out.later hal, hr5.later hal, HM5.out.later hal, grown_below HG5.out hal, HG5.out.size, by rw [HRR.out]; exact Nat.le_refl _, by have := HZ5.out.lt; omega, HBL.out, HB0.out⟩
      obtain ⟨Y, hY⟩ : ∃ Y, Y = w5.heap.size := ⟨_, rfl⟩
      obtain ⟨w6, hw6⟩ : ∃ w6, w6 = w5.alloc (.cells #[.int .u64 (Oct.word A 0 : Nat), .int .u64 (Oct.word A 1 : Nat), .int .u64 (Oct.word A 2 : Nat), .int .u64 (Oct.word A 3 : Nat)] 28) := ⟨_, rfl⟩
      rw [← hw6, ← hY] at HS6
      have HW6 : Hid (w6 = _) := hw6
      have HYY : Hid (Y = _) := hY
      clear hc hw6 hY hal hr5 hg5 hRlt HZ5 HM5 HG5 HRw4 HZw4 HMw4 HGw4
      unfold setV
      go_wp2_with fail
      rw [← HW6.out, ← HYY.out]
      clear HW6 HYY
      go_loopw [] (fun u => ∃ (f' : Nat) (A' : Oct.S) (j' : Nat), j' ≤ s.size ∧ Hid (Sx w s B Y R d u j' A') ∧ Hid (setOf s f i = setEnd s i (setLoop s i f' A' j'))) (fun u => 4000 - (intOf ((u.cell? ⟨B, 1, none⟩).getD undef)).toNat)
      case atStart => exact ⟨f, A, j, hj, HS6, HSO⟩
      case round =>
        clear HS6 HSO
        obtain ⟨f', A', j', hj', hsx, hso⟩ := hrel
        have HM : Hid (4000 - (intOf ((wr.cell? ⟨B, 1, none⟩).getD undef)).toNat = 4000 - j') := by show _ = _; rw [hsx.out.rd.cells.2.1]; simp [intOf]
        obtain ⟨f2, rfl⟩ : ∃ f2, f' = f2 + 1 := by
          cases f' with
          | zero => exact absurd hso.out HO.out
          | succ f2 => exact ⟨f2, rfl⟩
        go_wp2_with fail
        refine (sees_any B j' d 93 s wr hsx.out.rd hj').mono ?_
        rintro e u1 ⟨rfl, ku⟩
        have HS2 : Hid (Sx w s B Y R d u1 j' A') := hsx.out.later ku
        clear ku
        cases h93 : sees s j' 93 with
        | true =>
          have hjlt : j' < s.size := by unfold sees at h93; simp at h93; exact h93.1
          have HXF : Hid (setOf s f i = .ok (Oct.inv A') (j' + 1)) := by
            show _ = _
            rw [hso.out]
            simp only [setLoop, h93, if_true, setEnd]
            rw [← HOT.out]
            rfl
          clear h93 hso
          obtain ⟨c0, c1, c2⟩ := HS2.out.rd.cells
          have f1 := HS2.out.rd.frozen 1
          have hj3 : j' ≤ 1024 := by omega
          have HR9 : Hid (RB (u1.setCell ⟨B, 1, none⟩ (.int .i64 ((j' : Int) + 1))) B s (j' + 1) d) := HS2.out.rd.at (j' + 1)
          have HS9 : Hid (Sx w s B Y R d (u1.setCell ⟨B, 1, none⟩ (.int .i64 ((j' : Int) + 1))) (j' + 1) A') := HS2.out.read (grown_set _ _ _ _) HR9.out
          go_upto_region 11 with fail
          obtain ⟨w9, hw9⟩ : ∃ w9, w9 = u1.setCell ⟨B, 1, none⟩ (.int .i64 ((j' : Int) + 1)) := ⟨_, rfl⟩
          rw [← hw9] at HS9 ⊢
          clear hw9 HR9 c0 c1 c2 f1
          obtain ⟨e0, e1, e2, e3⟩ := HS9.out.all.cells
          go_wp2_with fail
          refine (not_gen A' _).mono ?_
          rintro e w10 ⟨rfl, k10⟩
          have HS10 : Hid (Sx w s B Y R d w10 (j' + 1) A') := HS9.out.later k10
          clear k10 e0 e1 e2 e3
          obtain ⟨z0, z1, z2, z3⟩ := HS10.out.res.cells
          have y0 := HS10.out.res.frozen 0
          have y1 := HS10.out.res.frozen 1
          have y2 := HS10.out.res.frozen 2
          have y3 := HS10.out.res.frozen 3
          go_wp2
          obtain ⟨q1, q2, q3⟩ := HS10.out.putR (Oct.inv A')
          refine post_set Tryz.f89 2 rfl rfl rfl q1 ?_
          unfold Reads
          rw [HXF.out]
          exact ⟨by omega, _, rfl, rfl, q2, q3⟩
        | false =>
          have H93 : Hid (sees s j' 93 = false) := h93
          clear h93
          cases hit : item s i j' with
          | out =>
            exfalso
            apply HO.out
            rw [hso.out]
            simp [setLoop, H93.out, hit, setEnd]
          | bad x c =>
            have HXF : Hid (setOf s f i = .bad x c) := by
              show _ = _
              rw [hso.out]
              simp [setLoop, H93.out, hit, setEnd]
            have HIT : Hid (item s i j' = .bad x c) := hit
            clear hit
            go_upto_region 8 with fail
            refine reg8_bad (w := w) (s := s) (B := B) (Y := Y) (R := R) (d := d) rfl rfl rfl rfl HS2.out hj' hs HIT.out ?_
            intro a' W' hd' hg'
            refine ⟨hd', ?_⟩
            unfold Reads
            rw [HXF.out]
            exact ⟨rfl, hg'⟩
          | ok x k =>
            have HXN : Hid (setOf s f i = setEnd s i (setLoop s i f2 (Oct.join A' x) k)) := by
              show _ = _
              rw [hso.out]
              simp [setLoop, H93.out, hit]
            have HIT : Hid (item s i j' = .ok x k) := hit
            have hkk := item_le hj' hit
            clear hit
            go_upto_region 8 with fail
            refine reg8_ok (w := w) (s := s) (B := B) (Y := Y) (R := R) (d := d) rfl rfl rfl rfl HS2.out hj' hs HIT.out ?_
            intro a' W' hfr hk hsn
            rw [fr8_lit hfr rfl]
            have HSN : Hid (Sx w s B Y R d W' k (Oct.join A' x)) := hsn
            obtain ⟨v33, e33⟩ : ∃ v, v = T a' 33 := ⟨_, rfl⟩
            obtain ⟨v34, e34⟩ : ∃ v, v = T a' 34 := ⟨_, rfl⟩
            obtain ⟨v35, e35⟩ : ∃ v, v = T a' 35 := ⟨_, rfl⟩
            obtain ⟨v36, e36⟩ : ∃ v, v = T a' 36 := ⟨_, rfl⟩
            obtain ⟨v37, e37⟩ : ∃ v, v = T a' 37 := ⟨_, rfl⟩
            obtain ⟨v38, e38⟩ : ∃ v, v = T a' 38 := ⟨_, rfl⟩
            rw [← e33, ← e34, ← e35, ← e36, ← e37, ← e38]
            clear e33 e34 e35 e36 e37 e38 hfr hsn
            go_wp2_with fail
            go_roundw
            case rel => exact ⟨_, _, _, _, _, _, _, _, _, ⟨f2, Oct.join A' x, k, hk, HSN, HXN⟩, rfl⟩
            case measure =>
              rw [HM.out, HSN.out.rd.cells.2.1]
              simp [intOf]
              omega
  | false =>
    rw [hoth] at HOT
    clear hoth
    have HRw3 := HR3
    have HZw3 := HZ3
    have HMw3 := HM3
    have HGw3 := HG3
    clear HR3 HZ3 HM3 HG3
    have HSO : Hid (setOf s f i = match item s i (i + 1) with
      | .ok a j => setEnd s i (setLoop s i f a j)
      | .bad a e => .bad a e
      | .out => .out) := by show _ = _; rw [setOf_eq, ← HOT.out]; rfl
    go_wp2_with fail
    refine (item_walk B i (i + 1) d s w3 HRw3.out (by omega) hs HMw3.out).mono ?_
    intro e w5 h5
    cases hc : item s i (i + 1) with
    | out => rw [hc] at h5; exact h5.elim
    | bad a c =>
      rw [hc] at h5 HSO
      obtain ⟨rfl, hg5⟩ := h5
      have HG5 : Hid (w.grownBy w5 (some B)) := grown_trans HGw3.out hg5
      clear hc hg5
      go_wp2
      refine ⟨rfl, ?_⟩
      unfold Reads
      rw [HSO.out]
      exact ⟨rfl, HG5.out⟩
    | ok A j =>
      rw [hc] at h5 HSO
      obtain ⟨hj, v, rfl, rfl, hr5, hg5⟩ := h5
      have hRlt := HZw3.out.lt
      have HZ5 : Hid (SB w5 R Oct.none) := (hg5.block R hRlt (by have := HBR.out; simp; exact this)).trans HZw3.out
      have HM5 : Hid (GM w5) := HMw3.out.grown hg5 HB0.out
      have HG5 : Hid (w.grownBy w5 (some B)) := grown_trans HGw3.out hg5
      have hal : Below w5.heap.size w5 (w5.alloc (.cells #[.int .u64 (Oct.word A 0 : Nat), .int .u64 (Oct.word A 1 : Nat), .int .u64 (Oct.word A 2 : Nat), .int .u64 (Oct.word A 3 : Nat)] 28)) := (Below.refl _ _).alloc (Nat.le_refl _) _
      have HS6 : Hid (Sx w s B w5.heap.size R d (w5.alloc (.cells #[.int .u64 (Oct.word A 0 : Nat), .int .u64 (Oct.word A 1 : Nat), .int .u64 (Oct.word A 2 : Nat), .int .u64 (Oct.word A 3 : Nat)] 28)) j A) :=
        ⟨sb_new w5 A, HZ5.out.later hal, hr5.later hal, HM5.out.later hal, grown_below HG5.out hal, HG5.out.size, by rw [HRR.out]; exact Nat.le_refl _, by have := HZ5.out.lt; omega, HBL.out, HB0.out⟩
      obtain ⟨Y, hY⟩ : ∃ Y, Y = w5.heap.size := ⟨_, rfl⟩
      obtain ⟨w6, hw6⟩ : ∃ w6, w6 = w5.alloc (.cells #[.int .u64 (Oct.word A 0 : Nat), .int .u64 (Oct.word A 1 : Nat), .int .u64 (Oct.word A 2 : Nat), .int .u64 (Oct.word A 3 : Nat)] 28) := ⟨_, rfl⟩
      rw [← hw6, ← hY] at HS6
      have HW6 : Hid (w6 = _) := hw6
      have HYY : Hid (Y = _) := hY
      clear hc hw6 hY hal hr5 hg5 hRlt HZ5 HM5 HG5 HRw3 HZw3 HMw3 HGw3
      unfold setV
      go_wp2_with fail
      rw [← HW6.out, ← HYY.out]
      clear HW6 HYY
      go_loopw [] (fun u => ∃ (f' : Nat) (A' : Oct.S) (j' : Nat), j' ≤ s.size ∧ Hid (Sx w s B Y R d u j' A') ∧ Hid (setOf s f i = setEnd s i (setLoop s i f' A' j'))) (fun u => 4000 - (intOf ((u.cell? ⟨B, 1, none⟩).getD undef)).toNat)
      case atStart => exact ⟨f, A, j, hj, HS6, HSO⟩
      case round =>
        clear HS6 HSO
        obtain ⟨f', A', j', hj', hsx, hso⟩ := hrel
        have HM : Hid (4000 - (intOf ((wr.cell? ⟨B, 1, none⟩).getD undef)).toNat = 4000 - j') := by show _ = _; rw [hsx.out.rd.cells.2.1]; simp [intOf]
        obtain ⟨f2, rfl⟩ : ∃ f2, f' = f2 + 1 := by
          cases f' with
          | zero => exact absurd hso.out HO.out
          | succ f2 => exact ⟨f2, rfl⟩
        go_wp2_with fail
        refine (sees_any B j' d 93 s wr hsx.out.rd hj').mono ?_
        rintro e u1 ⟨rfl, ku⟩
        have HS2 : Hid (Sx w s B Y R d u1 j' A') := hsx.out.later ku
        clear ku
        cases h93 : sees s j' 93 with
        | true =>
          have hjlt : j' < s.size := by unfold sees at h93; simp at h93; exact h93.1
          have HXF : Hid (setOf s f i = .ok (Oct.meet A' ordinary) (j' + 1)) := by
            show _ = _
            rw [hso.out]
            simp only [setLoop, h93, if_true, setEnd]
            rw [← HOT.out]
            rfl
          clear h93 hso
          obtain ⟨c0, c1, c2⟩ := HS2.out.rd.cells
          have f1 := HS2.out.rd.frozen 1
          have hj3 : j' ≤ 1024 := by omega
          have HR9 : Hid (RB (u1.setCell ⟨B, 1, none⟩ (.int .i64 ((j' : Int) + 1))) B s (j' + 1) d) := HS2.out.rd.at (j' + 1)
          have HS9 : Hid (Sx w s B Y R d (u1.setCell ⟨B, 1, none⟩ (.int .i64 ((j' : Int) + 1))) (j' + 1) A') := HS2.out.read (grown_set _ _ _ _) HR9.out
          go_upto_region 12 with fail
          obtain ⟨w9, hw9⟩ : ∃ w9, w9 = u1.setCell ⟨B, 1, none⟩ (.int .i64 ((j' : Int) + 1)) := ⟨_, rfl⟩
          rw [← hw9] at HS9 ⊢
          clear hw9 HR9 c0 c1 c2 f1
          refine reg12 (w := w) (s := s) (B := B) (Y := Y) (R := R) (d := d) rfl rfl rfl HS9.out ?_
          intro a' W' hfr q1 q2 q3
          have hT2 : a'.tmps[2]?.getD undef = .pointer (some ⟨R, 0, none⟩) := fr12_T hfr (k := 2) (by decide)
          rename_i hK2
          refine hK2 _ _ (wp_ret ?_)
          refine post_set Tryz.f89 2 rfl hfr.2.1 hT2 q1 ?_
          unfold Reads
          rw [HXF.out]
          exact ⟨by omega, _, rfl, rfl, q2, q3⟩
        | false =>
          have H93 : Hid (sees s j' 93 = false) := h93
          clear h93
          cases hit : item s i j' with
          | out =>
            exfalso
            apply HO.out
            rw [hso.out]
            simp [setLoop, H93.out, hit, setEnd]
          | bad x c =>
            have HXF : Hid (setOf s f i = .bad x c) := by
              show _ = _
              rw [hso.out]
              simp [setLoop, H93.out, hit, setEnd]
            have HIT : Hid (item s i j' = .bad x c) := hit
            clear hit
            go_upto_region 8 with fail
            refine reg8_bad (w := w) (s := s) (B := B) (Y := Y) (R := R) (d := d) rfl rfl rfl rfl HS2.out hj' hs HIT.out ?_
            intro a' W' hd' hg'
            refine ⟨hd', ?_⟩
            unfold Reads
            rw [HXF.out]
            exact ⟨rfl, hg'⟩
          | ok x k =>
            have HXN : Hid (setOf s f i = setEnd s i (setLoop s i f2 (Oct.join A' x) k)) := by
              show _ = _
              rw [hso.out]
              simp [setLoop, H93.out, hit]
            have HIT : Hid (item s i j' = .ok x k) := hit
            have hkk := item_le hj' hit
            clear hit
            go_upto_region 8 with fail
            refine reg8_ok (w := w) (s := s) (B := B) (Y := Y) (R := R) (d := d) rfl rfl rfl rfl HS2.out hj' hs HIT.out ?_
            intro a' W' hfr hk hsn
            rw [fr8_lit hfr rfl]
            have HSN : Hid (Sx w s B Y R d W' k (Oct.join A' x)) := hsn
            obtain ⟨v33, e33⟩ : ∃ v, v = T a' 33 := ⟨_, rfl⟩
            obtain ⟨v34, e34⟩ : ∃ v, v = T a' 34 := ⟨_, rfl⟩
            obtain ⟨v35, e35⟩ : ∃ v, v = T a' 35 := ⟨_, rfl⟩
            obtain ⟨v36, e36⟩ : ∃ v, v = T a' 36 := ⟨_, rfl⟩
            obtain ⟨v37, e37⟩ : ∃ v, v = T a' 37 := ⟨_, rfl⟩
            obtain ⟨v38, e38⟩ : ∃ v, v = T a' 38 := ⟨_, rfl⟩
            rw [← e33, ← e34, ← e35, ← e36, ← e37, ← e38]
            clear e33 e34 e35 e36 e37 e38 hfr hsn
            go_wp2_with fail
            go_roundw
            case rel => exact ⟨_, _, _, _, _, _, _, _, _, ⟨f2, Oct.join A' x, k, hk, HSN, HXN⟩, rfl⟩
            case measure =>
              rw [HM.out, HSN.out.rd.cells.2.1]
              simp [intOf]
              omega
end Go.Proofs.YtmjnobdlgbojoaaGreatDoor
