/- The region of OctetsBack's loop that appends a row: in every order. -/
import Derived.Test.YtkgpmaclaahmbaaBackKit
import Derived.Test.YtkgpmaclaahmbaaClass
namespace Go.Proofs.Ytkgpmaclaahmbaa
open Go Go.RowKit Go.Shelf
attribute [local go_sem] Oper.semAt_some

/-- the slots outside stand -/
def Fr6 (act a : Act) : Prop := a.tmps.size = 76 ∧ a.defers = act.defers ∧ ∀ k, k < 36 ∨ 42 ≤ k → a.tmps[k]? = act.tmps[k]?
theorem Fr6.put {act a : Act} (h : Fr6 act a) {d : Nat} (hd : 36 ≤ d) (hd2 : d < 42) (v : Value) : Fr6 act (a.put (some d) v) := by
  refine ⟨by simpa [Act.put] using h.1, by simpa [Act.put] using h.2.1, fun k hk => ?_⟩
  rw [← h.2.2 k hk]
  simp only [Act.put]
  exact Array.getElem?_setIfInBounds_ne (by omega)
theorem Fr6.T {act a : Act} (h : Fr6 act a) {k : Nat} (hk : k < 36 ∨ 42 ≤ k) : T a k = T act k := by unfold Ytkgpmaclaahmbaa.T; rw [h.2.2 k hk]
theorem T_put {a : Act} {d : Nat} {v : Value} (h : d < a.tmps.size) : T (a.put (some d) v) d = v := put_same h
theorem T_put' {a : Act} {d e : Nat} {v : Value} (h : d ≠ e) : T (a.put (some d) v) e = T a e := put_other h
theorem sl1_new (w : World) (s : Oct.S) (g : Nat) (hg : g = w.heap.size) : SL (w.alloc (.cells #[.int .u64 (Oct.word s 0 : Nat), .int .u64 (Oct.word s 1 : Nat), .int .u64 (Oct.word s 2 : Nat), .int .u64 (Oct.word s 3 : Nat)] 24)) g [s] := by
  subst hg
  exact ⟨heap_alloc_new w _⟩
theorem enters10 : Enters 10 := fun args w => by simp [go_sem]
section
variable {o : Oper} {a : Act} {w : World} {r : Value → World → Prop} {Q : Exit → Act → World → Prop}
theorem ob_loadbox {B p : Nat} {t : TypeId} {v : Value} (ho : o.op = .load 26 (.tmp p)) (hp : T a p = .pointer (some ⟨B, 0, none⟩)) (hs : Boxed w B t v) (hr : r v w) : o.wp Try.prog a w (Leaves r o a w) Q := by
  obtain ⟨dst, op, type, pos, after, guard⟩ := o
  simp only at ho
  subst ho
  have c := hs.cell
  refine ob_value (v := v) (w' := w) ?_ (Below.refl _ _) hr
  simp [execOp, Act.eval, hp, go_sem, c]
theorem ob_slice1 {p : Nat} {s : Oct.S} (ho : o.op = .buildSlice 26 1 #[(0, .tmp p)]) (hty : o.type = 26) (hp : T a p = setV s) (hr : ∀ g w', SL w' g [s] → r (.slice (some ⟨g, 0, none⟩) 1 1) w') : o.wp Try.prog a w (Leaves r o a w) Q := by
  obtain ⟨dst, op, type, pos, after, guard⟩ := o
  simp only at ho hty
  subst ho hty
  refine ob_value (w' := w.alloc _) ?_ ((Below.refl _ _).alloc (Nat.le_refl _) _) (hr _ _ (sl1_new w s _ rfl))
  unfold setV at hp
  simp [execOp, Act.eval, hp, go_sem]
end
theorem ob_plain {o : Oper} {a : Act} {w w' : World} {K : Act → World → Prop} {Q : Exit → Act → World → Prop} {v : Value} (h : (execOp a.eval o).run Try.prog w = .ok (.value v) w') (hK : K (a.put o.dst v) w') : o.wp Try.prog a w K Q := by
  unfold Oper.wp
  rw [h]
  exact hK
theorem ob_skip {o : Oper} {a : Act} {w w' : World} {K : Act → World → Prop} {Q : Exit → Act → World → Prop} (h : (execOp a.eval o).run Try.prog w = .ok .skip w') (hK : K (a.put o.dst undef) w') : o.wp Try.prog a w K Q := by
  unfold Oper.wp
  rw [h]
  exact hK
/-- what stands while the region's operations come up -/
structure Inv14 (w : World) (s : Oct.S) (X : Nat) (W : World) (V : Value) (xs : List Oct.S) (U T0 : Value) (zs : List Int) (last n : Int) (act : Act) (f t : Nat) (L : Nat → Bool) (a : Act) (u : World) : Prop where
  fr : Fr6 act a
  ko : KeepsOthers W u
  o3 : L 3 = true → L 1 = true ∧ L 2 = true
  o4 : L 4 = true → L 3 = true
  o5 : L 5 = true → L 0 = true ∧ L 4 = true
  o6 : L 6 = true → L 5 = true
  v0 : L 0 = true → T a 36 = V
  v1 : L 1 = true → T a 37 = .int .u8 (f : Nat)
  v2 : L 2 = true → T a 38 = .int .u8 (t : Nat)
  v3 : L 3 = true → T a 39 = setV (Oct.span f t)
  v4 : L 4 = true → L 5 = false → ∃ g, T a 40 = .slice (some ⟨g, 0, none⟩) 1 1 ∧ SL u g [Oct.span f t]
  b0 : L 5 = false → Bk w s X u V V xs U T0 zs last n
  b5 : L 5 = true → L 6 = false → Bk w s X u V (T a 41) (xs ++ [Oct.span f t]) U T0 zs last n
  b6 : L 6 = true → ∃ R, Bk w s X u R R (xs ++ [Oct.span f t]) U T0 zs last n
set_option maxRecDepth 100000 in
theorem reg14 {l m : Nat} {act : Act} {w : World} {s : Oct.S} {X : Nat} {W : World} {V : Value} {xs : List Oct.S} {U T0 : Value} {zs : List Int} {last n : Int} {f t : Nat} {Q : Exit → Act → World → Prop} (hf : f < 256) (ht : t < 256)
    (hT3 : T act 3 = .pointer (some ⟨X, 0, none⟩)) (hT7 : T act 7 = .int .u8 (f : Nat)) (hT8 : T act 8 = .int .u8 (t : Nat)) (hsz : act.tmps.size = 76) (hB : Bk w s X W V V xs U T0 zs last n) (hx : xs.length ≤ 1000)
    (K : ∀ a' W' R, Fr6 act a' → KeepsOthers W W' → Bk w s X W' R R (xs ++ [Oct.span f t]) U T0 zs last n → Q .normal a' W') :
    (Code.region 14 (opsOf Try.f3 14) true).wpIn (Fence.wide.inRound l) m Try.prog Q act W := by
  refine wpIn_region_inv (by kernel_rfl) (Inv14 w s X W V xs U T0 zs last n act f t) ?wf ?step ?fin ?zero
  case zero =>
    intro L hL
    have h0 := hL 0 (by decide)
    have h1 := hL 1 (by decide)
    have h2 := hL 2 (by decide)
    have h3 := hL 3 (by decide)
    have h4 := hL 4 (by decide)
    have h5 := hL 5 (by decide)
    have h6 := hL 6 (by decide)
    exact ⟨⟨hsz, rfl, fun _ _ => rfl⟩, KeepsOthers.drew W, by simp [h3], by simp [h4], by simp [h5], by simp [h6], by simp [h0], by simp [h1], by simp [h2], by simp [h3], by simp [h4], fun _ => hB.later (Below.refl _ _).drew, by simp [h5], by simp [h6]⟩
  case fin =>
    intro L a u hL hI
    obtain ⟨R, hR⟩ := hI.b6 (hL 6 (by decide))
    exact K a u R hI.fr hI.ko hR
  case wf =>
    have h : AllFrom (fun i o => ∀ e ∈ o.after, e.on < i) 0 (opsOf Try.f3 14).toList := by
      refine ⟨by simp, by simp, by simp, by simp, by simp, by simp, by simp, trivial⟩
    intro i o e ho he _
    have := allFrom_at h i o (by simpa using ho) e he
    omega
  case step =>
    have h : AllFrom (fun i o => o.guard = none ∧ (∀ c, o.op ≠ .defer c) ∧ ∀ L a u, Inv14 w s X W V xs U T0 zs last n act f t L a u → L i = false → (∀ e ∈ o.after, Region.binds .any e = true → L e.on = true) → ∀ Q, o.wp Try.prog a u (fun a' w' => Inv14 w s X W V xs U T0 zs last n act f t (more L i) a' w') Q) 0 (opsOf Try.f3 14).toList := by
      refine ⟨⟨rfl, by simp, fun L a u hI hi hE Q => ?s0⟩, ⟨rfl, by simp, fun L a u hI hi hE Q => ?s1⟩, ⟨rfl, by simp, fun L a u hI hi hE Q => ?s2⟩, ⟨rfl, by simp, fun L a u hI hi hE Q => ?s3⟩, ⟨rfl, by simp, fun L a u hI hi hE Q => ?s4⟩, ⟨rfl, by simp, fun L a u hI hi hE Q => ?s5⟩, ⟨rfl, by simp, fun L a u hI hi hE Q => ?s6⟩, trivial⟩
      case s0 =>
        have hi : L 0 = false := hi
        have h5 : L 5 = false := by
          cases h : L 5 with
          | false => rfl
          | true => have h2 := hI.o5 h; rw [hi] at h2; cases h2.1
        have h6 : L 6 = false := by
          cases h : L 6 with
          | false => rfl
          | true => have h2 := hI.o6 h; rw [h5] at h2; cases h2
        have hsz' : a.tmps.size = 76 := hI.fr.1
        have hb := hI.b0 h5
        refine Oper.wp_mono ?_ (ob_loadbox (r := fun v _ => v = V) rfl ((hI.fr.T (by omega)).trans hT3) hb.rows rfl)
        rintro a' w' ⟨v, rfl, hbel, rfl⟩
        exact ⟨hI.fr.put (by decide) (by decide) _, hI.ko.trans (keeps_below hbel), fun h => by have h2 := hI.o3 (by simpa [more] using h); simp [more, h2.1, h2.2], fun h => by have h2 := hI.o4 (by simpa [more] using h); simp [more, h2], fun h => by simp [more, h5] at h, fun h => by simp [more, h6] at h, fun _ => T_put (by omega), fun h => (T_put' (by decide)).trans (hI.v1 (by simpa [more] using h)), fun h => (T_put' (by decide)).trans (hI.v2 (by simpa [more] using h)), fun h => (T_put' (by decide)).trans (hI.v3 (by simpa [more] using h)), fun h _ => by obtain ⟨g, e, hs⟩ := hI.v4 (by simpa [more] using h) h5; exact ⟨g, (T_put' (by decide)).trans e, hs.later hbel⟩, fun _ => (hI.b0 h5).later hbel, fun h => by simp [more, h5] at h, fun h => by simp [more, h6] at h⟩
      case s1 =>
        have hi : L 1 = false := hi
        have h5 : L 5 = false := by
          cases h : L 5 with
          | false => rfl
          | true => have h2 := hI.o5 h; have h3 := hI.o4 h2.2; have h4 := hI.o3 h3; rw [hi] at h4; cases h4.1
        have h6 : L 6 = false := by
          cases h : L 6 with
          | false => rfl
          | true => have h2 := hI.o6 h; rw [h5] at h2; cases h2
        have hsz' : a.tmps.size = 76 := hI.fr.1
        have hb := hI.b0 h5
        refine Oper.wp_mono ?_ (ob_move (r := fun v _ => v = .int .u8 (f : Nat)) rfl ((hI.fr.T (by omega)).trans hT7) rfl)
        rintro a' w' ⟨v, rfl, hbel, rfl⟩
        exact ⟨hI.fr.put (by decide) (by decide) _, hI.ko.trans (keeps_below hbel), fun h => by have h2 := hI.o3 (by simpa [more] using h); simp [more, h2.2], fun h => by have h2 := hI.o4 (by simpa [more] using h); simp [more, h2], fun h => by simp [more, h5] at h, fun h => by simp [more, h6] at h, fun h => (T_put' (by decide)).trans (hI.v0 (by simpa [more] using h)), fun _ => T_put (by omega), fun h => (T_put' (by decide)).trans (hI.v2 (by simpa [more] using h)), fun h => (T_put' (by decide)).trans (hI.v3 (by simpa [more] using h)), fun h _ => by obtain ⟨g, e, hs⟩ := hI.v4 (by simpa [more] using h) h5; exact ⟨g, (T_put' (by decide)).trans e, hs.later hbel⟩, fun _ => (hI.b0 h5).later hbel, fun h => by simp [more, h5] at h, fun h => by simp [more, h6] at h⟩
      case s2 =>
        have hi : L 2 = false := hi
        have h5 : L 5 = false := by
          cases h : L 5 with
          | false => rfl
          | true => have h2 := hI.o5 h; have h3 := hI.o4 h2.2; have h4 := hI.o3 h3; rw [hi] at h4; cases h4.2
        have h6 : L 6 = false := by
          cases h : L 6 with
          | false => rfl
          | true => have h2 := hI.o6 h; rw [h5] at h2; cases h2
        have hsz' : a.tmps.size = 76 := hI.fr.1
        have hb := hI.b0 h5
        refine Oper.wp_mono ?_ (ob_move (r := fun v _ => v = .int .u8 (t : Nat)) rfl ((hI.fr.T (by omega)).trans hT8) rfl)
        rintro a' w' ⟨v, rfl, hbel, rfl⟩
        exact ⟨hI.fr.put (by decide) (by decide) _, hI.ko.trans (keeps_below hbel), fun h => by have h2 := hI.o3 (by simpa [more] using h); simp [more, h2.1], fun h => by have h2 := hI.o4 (by simpa [more] using h); simp [more, h2], fun h => by simp [more, h5] at h, fun h => by simp [more, h6] at h, fun h => (T_put' (by decide)).trans (hI.v0 (by simpa [more] using h)), fun h => (T_put' (by decide)).trans (hI.v1 (by simpa [more] using h)), fun _ => T_put (by omega), fun h => (T_put' (by decide)).trans (hI.v3 (by simpa [more] using h)), fun h _ => by obtain ⟨g, e, hs⟩ := hI.v4 (by simpa [more] using h) h5; exact ⟨g, (T_put' (by decide)).trans e, hs.later hbel⟩, fun _ => (hI.b0 h5).later hbel, fun h => by simp [more, h5] at h, fun h => by simp [more, h6] at h⟩
      case s3 =>
        have hi : L 3 = false := hi
        have h5 : L 5 = false := by
          cases h : L 5 with
          | false => rfl
          | true => have h2 := hI.o5 h; have h3 := hI.o4 h2.2; rw [hi] at h3; cases h3
        have h6 : L 6 = false := by
          cases h : L 6 with
          | false => rfl
          | true => have h2 := hI.o6 h; rw [h5] at h2; cases h2
        have hsz' : a.tmps.size = 76 := hI.fr.1
        have hb := hI.b0 h5
        refine Oper.wp_mono ?_ (ob_call2 (r := fun v _ => v = setV (Oct.span f t)) rfl enters10 (hI.v1 (hE ⟨1, .data⟩ (by simp) rfl)) (hI.v2 (hE ⟨2, .data⟩ (by simp) rfl)) ((span_gen f t u hf ht).mono (fun _ w' h => ⟨_, h.1, h.2, rfl⟩)))
        rintro a' w' ⟨v, rfl, hbel, rfl⟩
        exact ⟨hI.fr.put (by decide) (by decide) _, hI.ko.trans (keeps_below hbel), fun _ => ⟨by simpa [more] using hE ⟨1, .data⟩ (by simp) rfl, by simpa [more] using hE ⟨2, .data⟩ (by simp) rfl⟩, fun _ => by simp [more], fun h => by simp [more, h5] at h, fun h => by simp [more, h6] at h, fun h => (T_put' (by decide)).trans (hI.v0 (by simpa [more] using h)), fun h => (T_put' (by decide)).trans (hI.v1 (by simpa [more] using h)), fun h => (T_put' (by decide)).trans (hI.v2 (by simpa [more] using h)), fun _ => T_put (by omega), fun h _ => by obtain ⟨g, e, hs⟩ := hI.v4 (by simpa [more] using h) h5; exact ⟨g, (T_put' (by decide)).trans e, hs.later hbel⟩, fun _ => (hI.b0 h5).later hbel, fun h => by simp [more, h5] at h, fun h => by simp [more, h6] at h⟩
      case s4 =>
        have hi : L 4 = false := hi
        have h5 : L 5 = false := by
          cases h : L 5 with
          | false => rfl
          | true => have h2 := hI.o5 h; rw [hi] at h2; cases h2.2
        have h6 : L 6 = false := by
          cases h : L 6 with
          | false => rfl
          | true => have h2 := hI.o6 h; rw [h5] at h2; cases h2
        have hsz' : a.tmps.size = 76 := hI.fr.1
        have hb := hI.b0 h5
        refine Oper.wp_mono ?_ (ob_slice1 (r := fun v u' => ∃ g, v = .slice (some ⟨g, 0, none⟩) 1 1 ∧ SL u' g [Oct.span f t]) rfl rfl (hI.v3 (hE ⟨3, .data⟩ (by simp) rfl)) (fun g w' h => ⟨g, rfl, h⟩))
        rintro a' w' ⟨v, rfl, hbel, g, rfl, hs⟩
        exact ⟨hI.fr.put (by decide) (by decide) _, hI.ko.trans (keeps_below hbel), fun h => by have h2 := hI.o3 (by simpa [more] using h); simp [more, h2.1, h2.2], fun _ => by simpa [more] using hE ⟨3, .data⟩ (by simp) rfl, fun h => by simp [more, h5] at h, fun h => by simp [more, h6] at h, fun h => (T_put' (by decide)).trans (hI.v0 (by simpa [more] using h)), fun h => (T_put' (by decide)).trans (hI.v1 (by simpa [more] using h)), fun h => (T_put' (by decide)).trans (hI.v2 (by simpa [more] using h)), fun h => (T_put' (by decide)).trans (hI.v3 (by simpa [more] using h)), fun _ _ => ⟨g, T_put (by omega), hs⟩, fun _ => (hI.b0 h5).later hbel, fun h => by simp [more, h5] at h, fun h => by simp [more, h6] at h⟩
      case s5 =>
        have hi : L 5 = false := hi
        have h6 : L 6 = false := by
          cases h : L 6 with
          | false => rfl
          | true => have h2 := hI.o6 h; rw [hi] at h2; cases h2
        have hsz' : a.tmps.size = 76 := hI.fr.1
        have hb := hI.b0 hi
        have e0 : L 0 = true := hE ⟨0, .data⟩ (by simp) rfl
        have e4 : L 4 = true := hE ⟨4, .data⟩ (by simp) rfl
        obtain ⟨g, hg, hs⟩ := hI.v4 e4 hi
        have hv := hI.v0 e0
        obtain ⟨v', w', hr, h2, h3⟩ := run_append_setsN u 26 (X + 5) V xs hb.row (some ⟨g, 0, none⟩) 1 [Oct.span f t] hs.at (by simp; omega) (by have := hb.cap.lt; omega) (fun e => by simp at e)
        refine ob_plain (v := v') (w' := w') ?_ ?_
        · unfold T at hv hg
          simp only [List.length_cons, List.length_nil, Nat.zero_add] at hr
          simp [execOp, Act.eval, resolve, invoke, builtin, hv, hg, hr]
        · refine ⟨hI.fr.put (by decide) (by decide) _, hI.ko.trans (keeps_grown h3 (fun r e => by obtain ⟨_, cur, hc⟩ := hb.row.isCells e; exact ⟨cur, 24, hc⟩)), fun h => by have h2 := hI.o3 (by simpa [more] using h); simp [more, h2.1, h2.2], fun h => by have h2 := hI.o4 (by simpa [more] using h); simp [more, h2], fun _ => by simp [more, e0, e4], fun h => by simp [more, h6] at h, fun h => (T_put' (by decide)).trans (hI.v0 (by simpa [more] using h)), fun h => (T_put' (by decide)).trans (hI.v1 (by simpa [more] using h)), fun h => (T_put' (by decide)).trans (hI.v2 (by simpa [more] using h)), fun h => (T_put' (by decide)).trans (hI.v3 (by simpa [more] using h)), fun _ h => by simp [more] at h, fun h => by simp [more] at h, fun _ _ => ?_, fun h => by simp [more, h6] at h⟩
          rw [T_put (by omega)]
          exact hb.growRows h3 h2
      case s6 =>
        have hi : L 6 = false := hi
        have e5 : L 5 = true := hE ⟨5, .data⟩ (by simp) rfl
        have hb := hI.b5 e5 hi
        have c := hb.rows.cell
        have fz := hb.rows.frozen
        obtain ⟨R, hR⟩ : ∃ R, R = T a 41 := ⟨_, rfl⟩
        rw [← hR] at hb
        have hT3' := (hI.fr.T (k := 3) (by omega)).trans hT3
        have hform : R = .slice none 0 0 ∨ ∃ ad n c, R = .slice (some ad) n c := by
          rcases hb.row.1.2 with ⟨e, _⟩ | ⟨g, cap, cur, e, _⟩
          · exact .inl e
          · exact .inr ⟨_, _, _, e⟩
        refine ob_skip (w' := u.setCell ⟨X, 0, none⟩ R) ?_ ?_
        · unfold T at hR hT3'
          rcases hform with e | ⟨ad, n, cc, e⟩ <;> subst e <;> simp [execOp, Act.eval, ← hR, hT3', go_sem, c, fz]
        · exact ⟨hI.fr, hI.ko.trans (KeepsOthers.setCell _ _ _), fun h => by have h2 := hI.o3 (by simpa [more] using h); simp [more, h2.1, h2.2], fun h => by have h2 := hI.o4 (by simpa [more] using h); simp [more, h2], fun h => by have h2 := hI.o5 (by simpa [more] using h); simp [more, h2.1, h2.2], fun _ => by simp [more, e5], fun h => hI.v0 (by simpa [more] using h), fun h => hI.v1 (by simpa [more] using h), fun h => hI.v2 (by simpa [more] using h), fun h => hI.v3 (by simpa [more] using h), fun _ h => by simp [more, e5] at h, fun h => by simp [more, e5] at h, fun _ h => by simp [more] at h, fun _ => ⟨R, hb.setRows R⟩⟩
    intro i o ho
    have := allFrom_at h i o (by simpa using ho)
    rwa [Nat.zero_add] at this
end Go.Proofs.Ytkgpmaclaahmbaa
