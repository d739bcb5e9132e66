/- The region of ere's set that joins one item more: in every order; the item may give up. -/
import Derived.Test.YtjmbimgofceanaaG05
namespace Go.Proofs.Ytjmbimgofceanaa
open Go Go.RowKit

/-- the state of ere.set: what has been gathered in block Y, the result's block R, the reader -/
structure Sx (w : World) (s : ByteArray) (B Y R d : Nat) (u : World) (i : Nat) (A : Oct.S) : Prop where
  all : SB u Y A
  res : SB u R Oct.none
  rd : RB u B s i d
  gm : GM u
  grown : w.grownBy u (some B)
  hY : w.heap.size ≤ Y
  hR : w.heap.size ≤ R
  hYR : R ≠ Y
  hB : B < w.heap.size
  hB0 : B ≠ 0
section
variable {w : World} {s : ByteArray} {B Y R d : Nat} {u u' : World} {i : Nat} {A : Oct.S}
theorem Sx.later (h : Sx w s B Y R d u i A) (hb : Below u.heap.size u u') : Sx w s B Y R d u' i A :=
  ⟨h.all.later hb, h.res.later hb, h.rd.later hb, h.gm.later hb, grown_below h.grown hb, h.hY, h.hR, h.hYR, h.hB, h.hB0⟩
theorem Sx.read (h : Sx w s B Y R d u i A) {j : Nat} (hg : u.grownBy u' (some B)) (hr : RB u' B s j d) : Sx w s B Y R d u' j A := by
  have h1 := h.hY
  have h2 := h.hR
  have h3 := h.hB
  exact ⟨(hg.block Y h.all.lt (by simp; omega)).trans h.all, (hg.block R h.res.lt (by simp; omega)).trans h.res, hr, h.gm.grown hg h.hB0, grown_trans h.grown hg, h1, h2, h.hYR, h3, h.hB0⟩
theorem gm_other {u : World} {Y : Nat} (h : GM u) (hY : Y ≠ 0) (j : Nat) (v : Value) : GM (u.setCell ⟨Y, j, none⟩ v) := by
  obtain ⟨m, hm⟩ := h
  refine ⟨m, ?_⟩
  rw [World.cell?_of_block (w := u) (Below.heap_setCell u ⟨Y, j, none⟩ v 0 (fun e => hY e.symm))]
  exact hm
theorem Sx.put (h : Sx w s B Y R d u i A) (t : Oct.S) : Sx w s B Y R d (put4 u Y t) i t := by
  have h1 := h.hY
  have h2 := h.hB
  have hY0 : Y ≠ 0 := by omega
  exact ⟨h.all.put4 t, h.res.put4_other h.hYR t, rb_put4 h.rd (by omega) t, gm_other (gm_other (gm_other (gm_other h.gm hY0 _ _) hY0 _ _) hY0 _ _) hY0 _ _, grown_put4 h.grown h1 t, h1, h.hR, h.hYR, h2, h.hB0⟩
end
theorem item_le {s : ByteArray} {o i j : Nat} {x : Oct.S} (hi : i ≤ s.size) (h : item s o i = .ok x j) : j ≤ s.size ∧ i < j := by
  unfold item at h
  split at h
  · cases h
  · rename_i hne
    split at h
    · rename_i hp
      simp at hp
      unfold class_ at h
      split at h
      · rename_i hc
        split at h
        · cases h
          have := class_room (s := s) (i := i) (by omega) hc
          omega
        · cases h
      · cases h
    · split at h
      · cases h
      · split at h
        · rename_i hp
          simp at hp
          unfold span_ at h
          split at h
          · cases h
          · cases h
            omega
        · cases h
          omega
/-- the slots outside stand -/
def Fr8 (act a : Act) : Prop := a.tmps.size = 52 ∧ a.defers = act.defers ∧ ∀ k, k < 33 ∨ 39 ≤ k → a.tmps[k]? = act.tmps[k]?
theorem Fr8.put {act a : Act} (h : Fr8 act a) {k : Nat} (hd : 33 ≤ k) (hd2 : k < 39) (v : Value) : Fr8 act (a.put (some k) v) := by
  refine ⟨by simpa [Act.put] using h.1, by simpa [Act.put] using h.2.1, fun j hj => ?_⟩
  rw [← h.2.2 j hj]
  simp only [Act.put]
  exact Array.getElem?_setIfInBounds_ne (by omega)
theorem fr8_T {act a : Act} (h : Fr8 act a) {k : Nat} (hk : k < 33 ∨ 39 ≤ k) : T a k = T act k := by unfold T; rw [h.2.2 k hk]
theorem T_put {a : Act} {d : Nat} {v : Value} (h : d < a.tmps.size) : T (a.put (some d) v) d = v := put_same h
theorem T_put' {a : Act} {d e : Nat} {v : Value} (h : d ≠ e) : T (a.put (some d) v) e = T a e := put_other h
theorem enters69 : Enters 91 := fun args w => by simp [go_sem]
theorem ob_plain {o : Oper} {a : Act} {w w' : World} {K : Act → World → Prop} {Q : Exit → Act → World → Prop} {v : Value} (h : (execOp a.eval o).run Try.prog w = .ok (.value v) w') (hK : K (a.put o.dst v) w') : o.wp Try.prog a w K Q := by
  unfold Oper.wp
  rw [h]
  exact hK
theorem ob_skip {o : Oper} {a : Act} {w w' : World} {K : Act → World → Prop} {Q : Exit → Act → World → Prop} (h : (execOp a.eval o).run Try.prog w = .ok .skip w') (hK : K (a.put o.dst undef) w') : o.wp Try.prog a w K Q := by
  unfold Oper.wp
  rw [h]
  exact hK
/-- a call of two arguments, whatever it ends with -/
theorem ob_call2any {o : Oper} {a : Act} {w : World} {K : Act → World → Prop} {Q : Exit → Act → World → Prop} {p q f : Nat} {ts : Array TypeId} (ho : o.op = .call { callee := .value (.func f), args := #[.tmp p, .tmp q], argTypes := ts }) (hf : Enters f) {v u : Value} (hx : T a p = v) (hy : T a q = u)
    (hc : Calls Try.prog f #[v, u] w fun e w' => (∃ r, e = .returned r ∧ K (a.put o.dst r) w') ∨ (∃ ch, e = .panicked ch ∧ Q (.panic ch) a w')) : o.wp Try.prog a w K Q := by
  have h : (execOp a.eval o).run Try.prog w = .ok (.enter f #[v, u]) w := by
    obtain ⟨dst, op, type, pos, after, guard⟩ := o
    simp only at ho
    subst ho
    simp [Act.eval, hx, hy, go_sem]
    exact hf _ _
  unfold Oper.wp
  rw [h]
  refine hc.mono ?_
  rintro e w' (⟨r, rfl, hK⟩ | ⟨ch, rfl, hQ⟩)
  · exact hK
  · exact hQ
structure Inv8 (w : World) (s : ByteArray) (B Y R d : Nat) (i j o : Nat) (A x : Oct.S) (act : Act) (L : Nat → Bool) (a : Act) (u : World) : Prop where
  fr : Fr8 act a
  o3 : L 3 = true → L 1 = true ∧ L 2 = true
  o4 : L 4 = true → L 0 = true ∧ L 3 = true
  o5 : L 5 = true → L 4 = true
  o6 : L 6 = true → L 5 = true
  v0 : L 0 = true → T a 33 = setV A
  v1 : L 1 = true → T a 34 = .pointer (some ⟨B, 0, none⟩)
  v2 : L 2 = true → T a 35 = .int .i64 (o : Nat)
  v3 : L 3 = true → T a 36 = setV x
  v4 : L 4 = true → ∃ g, T a 37 = .slice (some ⟨g, 0, none⟩) 2 2 ∧ (L 5 = false → SL u g [A, x])
  v5 : L 5 = true → T a 38 = setV (Oct.join A x)
  s0 : L 3 = false → Sx w s B Y R d u i A
  s3 : L 3 = true → L 6 = false → Sx w s B Y R d u j A
  s6 : L 6 = true → Sx w s B Y R d u j (Oct.join A x)
set_option maxRecDepth 100000 in
theorem reg8_ok {act : Act} {w : World} {s : ByteArray} {B Y R d : Nat} {W : World} {i j o : Nat} {A x : Oct.S} {Q : Exit → Act → World → Prop} (hT0 : T act 0 = .pointer (some ⟨B, 0, none⟩)) (hT3 : T act 3 = .int .i64 (o : Nat)) (hT5 : T act 5 = .pointer (some ⟨Y, 0, none⟩)) (hsz : act.tmps.size = 52)
    (hS : Sx w s B Y R d W i A) (hi : i ≤ s.size) (hs : s.size ≤ 1024) (hit : item s o i = .ok x j)
    (K : ∀ a' W', Fr8 act a' → j ≤ s.size → Sx w s B Y R d W' j (Oct.join A x) → Q .normal a' W') : (Code.region 8 (opsOf Try.f86 8) true).wp Try.prog Q act W := by
  have hj : j ≤ s.size := (item_le hi hit).1
  refine wp_region_inv (by kernel_rfl) (Inv8 w s B Y R d i j o A x act) ?wf ?step ?fin ?zero
  case zero =>
    intro L hL
    have h0 := hL 0 (by decide)
    have h1 := hL 1 (by decide)
    have h2 := hL 2 (by decide)
    have h3 := hL 3 (by decide)
    have h4 := hL 4 (by decide)
    have h5 := hL 5 (by decide)
    have h6 := hL 6 (by decide)
    exact ⟨⟨hsz, rfl, fun _ _ => rfl⟩, by simp [h3], by simp [h4], by simp [h5], by simp [h6], by simp [h0], by simp [h1], by simp [h2], by simp [h3], by simp [h4], by simp [h5], fun _ => hS.later (Below.refl _ _).drew, by simp [h3], by simp [h6]⟩
  case fin =>
    intro L a u hL hI
    exact K a u hI.fr hj (hI.s6 (hL 6 (by decide)))
  case wf =>
    have h : AllFrom (fun i o => ∀ e ∈ o.after, e.on < i) 0 (opsOf Try.f86 8).toList := by
      refine ⟨by simp, by simp, by simp, by simp, by simp, by simp, by simp, trivial⟩
    intro i o e ho he _
    have := allFrom_at h i o (by simpa using ho) e he
    omega
  case step =>
    have h : AllFrom (fun k p => p.guard = none ∧ ∀ L a u, Inv8 w s B Y R d i j o A x act L a u → L k = false → (∀ e ∈ p.after, Region.binds .any e = true → L e.on = true) → p.wp Try.prog a u (fun a' w' => Inv8 w s B Y R d i j o A x act (more L k) a' w') Q) 0 (opsOf Try.f86 8).toList := by
      refine ⟨⟨rfl, fun L a u hI hi hE => ?s0⟩, ⟨rfl, fun L a u hI hi hE => ?s1⟩, ⟨rfl, fun L a u hI hi hE => ?s2⟩, ⟨rfl, fun L a u hI hi hE => ?s3⟩, ⟨rfl, fun L a u hI hi hE => ?s4⟩, ⟨rfl, fun L a u hI hi hE => ?s5⟩, ⟨rfl, fun L a u hI hi hE => ?s6⟩, trivial⟩
      case s0 =>
        have hi : L 0 = false := hi
        have hsz' : a.tmps.size = 52 := hI.fr.1
        have h4 : L 4 = false := by
          cases h : L 4 with
          | false => rfl
          | true => have h2 := hI.o4 h; rw [hi] at h2; cases h2.1
        have h5 : L 5 = false := by
          cases h : L 5 with
          | false => rfl
          | true => have h2 := hI.o5 h; rw [h4] at h2; cases h2
        have h6 : L 6 = false := by
          cases h : L 6 with
          | false => rfl
          | true => have h2 := hI.o6 h; rw [h5] at h2; cases h2
        have hall : SB u Y A := by
          cases h : L 3 with
          | false => exact (hI.s0 h).all
          | true => exact (hI.s3 h h6).all
        refine Oper.wp_mono ?_ (ob_load4 (r := fun v _ => v = setV A) rfl ((fr8_T hI.fr (by omega)).trans hT5) hall rfl)
        rintro a' w' ⟨v, rfl, hbel, rfl⟩
        exact ⟨hI.fr.put (by decide) (by decide) _, fun h => by have h2 := hI.o3 (by simpa [more] using h); exact ⟨by simp [more, h2.1], by simp [more, h2.2]⟩, fun h => by have h2 := hI.o4 (by simpa [more] using h); exact ⟨by simp [more], by simp [more, h2.2]⟩, fun h => by have h2 := hI.o5 (by simpa [more] using h); simp [more, h2], fun h => by have h2 := hI.o6 (by simpa [more] using h); simp [more, h2], fun _ => T_put (by omega), fun h => (T_put' (by decide)).trans (hI.v1 (by simpa [more] using h)), fun h => (T_put' (by decide)).trans (hI.v2 (by simpa [more] using h)), fun h => (T_put' (by decide)).trans (hI.v3 (by simpa [more] using h)), fun h => by simp [more, h4] at h, fun h => by simp [more, h5] at h, fun h => (hI.s0 (by simpa [more] using h)).later hbel, fun h _ => (hI.s3 (by simpa [more] using h) h6).later hbel, fun h => by simp [more, h6] at h⟩
      case s1 =>
        have hi : L 1 = false := hi
        have hsz' : a.tmps.size = 52 := hI.fr.1
        have h3 : L 3 = false := by
          cases h : L 3 with
          | false => rfl
          | true => have h2 := hI.o3 h; rw [hi] at h2; cases h2.1
        have h4 : L 4 = false := by
          cases h : L 4 with
          | false => rfl
          | true => have h2 := hI.o4 h; rw [h3] at h2; cases h2.2
        have h5 : L 5 = false := by
          cases h : L 5 with
          | false => rfl
          | true => have h2 := hI.o5 h; rw [h4] at h2; cases h2
        have h6 : L 6 = false := by
          cases h : L 6 with
          | false => rfl
          | true => have h2 := hI.o6 h; rw [h5] at h2; cases h2
        refine Oper.wp_mono ?_ (ob_move (r := fun v _ => v = .pointer (some ⟨B, 0, none⟩)) rfl ((fr8_T hI.fr (by omega)).trans hT0) rfl)
        rintro a' w' ⟨v, rfl, hbel, rfl⟩
        exact ⟨hI.fr.put (by decide) (by decide) _, fun h => by have h2 := hI.o3 (by simpa [more] using h); exact ⟨by simp [more], by simp [more, h2.2]⟩, fun h => by have h2 := hI.o4 (by simpa [more] using h); exact ⟨by simp [more, h2.1], by simp [more, h2.2]⟩, fun h => by have h2 := hI.o5 (by simpa [more] using h); simp [more, h2], fun h => by have h2 := hI.o6 (by simpa [more] using h); simp [more, h2], fun h => (T_put' (by decide)).trans (hI.v0 (by simpa [more] using h)), fun _ => T_put (by omega), fun h => (T_put' (by decide)).trans (hI.v2 (by simpa [more] using h)), fun h => (T_put' (by decide)).trans (hI.v3 (by simpa [more] using h)), fun h => by simp [more, h4] at h, fun h => by simp [more, h5] at h, fun _ => (hI.s0 h3).later hbel, fun h => by simp [more, h3] at h, fun h => by simp [more, h6] at h⟩
      case s2 =>
        have hi : L 2 = false := hi
        have hsz' : a.tmps.size = 52 := hI.fr.1
        have h3 : L 3 = false := by
          cases h : L 3 with
          | false => rfl
          | true => have h2 := hI.o3 h; rw [hi] at h2; cases h2.2
        have h4 : L 4 = false := by
          cases h : L 4 with
          | false => rfl
          | true => have h2 := hI.o4 h; rw [h3] at h2; cases h2.2
        have h5 : L 5 = false := by
          cases h : L 5 with
          | false => rfl
          | true => have h2 := hI.o5 h; rw [h4] at h2; cases h2
        have h6 : L 6 = false := by
          cases h : L 6 with
          | false => rfl
          | true => have h2 := hI.o6 h; rw [h5] at h2; cases h2
        refine Oper.wp_mono ?_ (ob_move (r := fun v _ => v = .int .i64 (o : Nat)) rfl ((fr8_T hI.fr (by omega)).trans hT3) rfl)
        rintro a' w' ⟨v, rfl, hbel, rfl⟩
        exact ⟨hI.fr.put (by decide) (by decide) _, fun h => by have h2 := hI.o3 (by simpa [more] using h); exact ⟨by simp [more, h2.1], by simp [more]⟩, fun h => by have h2 := hI.o4 (by simpa [more] using h); exact ⟨by simp [more, h2.1], by simp [more, h2.2]⟩, fun h => by have h2 := hI.o5 (by simpa [more] using h); simp [more, h2], fun h => by have h2 := hI.o6 (by simpa [more] using h); simp [more, h2], fun h => (T_put' (by decide)).trans (hI.v0 (by simpa [more] using h)), fun h => (T_put' (by decide)).trans (hI.v1 (by simpa [more] using h)), fun _ => T_put (by omega), fun h => (T_put' (by decide)).trans (hI.v3 (by simpa [more] using h)), fun h => by simp [more, h4] at h, fun h => by simp [more, h5] at h, fun _ => (hI.s0 h3).later hbel, fun h => by simp [more, h3] at h, fun h => by simp [more, h6] at h⟩
      case s3 =>
        have hi : L 3 = false := hi
        have hsz' : a.tmps.size = 52 := hI.fr.1
        have h3 : L 3 = false := hi
        have h4 : L 4 = false := by
          cases h : L 4 with
          | false => rfl
          | true => have h2 := hI.o4 h; rw [h3] at h2; cases h2.2
        have h5 : L 5 = false := by
          cases h : L 5 with
          | false => rfl
          | true => have h2 := hI.o5 h; rw [h4] at h2; cases h2
        have h6 : L 6 = false := by
          cases h : L 6 with
          | false => rfl
          | true => have h2 := hI.o6 h; rw [h5] at h2; cases h2
        have hx1 := hI.v1 (hE ⟨1, .data⟩ (by simp) rfl)
        have hx2 := hI.v2 (hE ⟨2, .data⟩ (by simp) rfl)
        have hS0 := hI.s0 h3
        refine ob_call2any rfl enters69 hx1 hx2 ((item_walk B o i d s u hS0.rd (by assumption) hs hS0.gm).mono ?_)
        intro e w' hr
        rw [hit] at hr
        obtain ⟨_, v, rfl, rfl, hrb, hg⟩ := hr
        refine .inl ⟨_, rfl, ?_⟩
        exact ⟨hI.fr.put (by decide) (by decide) _, fun _ => ⟨by simpa [more] using hE ⟨1, .data⟩ (by simp) rfl, by simpa [more] using hE ⟨2, .data⟩ (by simp) rfl⟩, fun h => by have h2 := hI.o4 (by simpa [more] using h); exact ⟨by simp [more, h2.1], by simp [more]⟩, fun h => by have h2 := hI.o5 (by simpa [more] using h); simp [more, h2], fun h => by have h2 := hI.o6 (by simpa [more] using h); simp [more, h2], fun h => (T_put' (by decide)).trans (hI.v0 (by simpa [more] using h)), fun h => (T_put' (by decide)).trans (hI.v1 (by simpa [more] using h)), fun h => (T_put' (by decide)).trans (hI.v2 (by simpa [more] using h)), fun _ => T_put (by omega), fun h => by simp [more, h4] at h, fun h => by simp [more, h5] at h, fun h => by simp [more] at h, fun _ _ => hS0.read hg hrb, fun h => by simp [more, h6] at h⟩
      case s4 =>
        have hi : L 4 = false := hi
        have hsz' : a.tmps.size = 52 := hI.fr.1
        have h4 : L 4 = false := hi
        have h5 : L 5 = false := by
          cases h : L 5 with
          | false => rfl
          | true => have h2 := hI.o5 h; rw [h4] at h2; cases h2
        have h6 : L 6 = false := by
          cases h : L 6 with
          | false => rfl
          | true => have h2 := hI.o6 h; rw [h5] at h2; cases h2
        have e3 : L 3 = true := hE ⟨3, .data⟩ (by simp) rfl
        have e0 : L 0 = true := hE ⟨0, .data⟩ (by simp) rfl
        refine Oper.wp_mono ?_ (ob_slice2 (r := fun v u' => ∃ g, v = .slice (some ⟨g, 0, none⟩) 2 2 ∧ SL u' g [A, x]) rfl rfl (hI.v0 e0) (hI.v3 e3) (fun g w' h => ⟨g, rfl, h⟩))
        rintro a' w' ⟨v, rfl, hbel, g, rfl, hsl⟩
        exact ⟨hI.fr.put (by decide) (by decide) _, fun h => by have h2 := hI.o3 (by simpa [more] using h); exact ⟨by simp [more, h2.1], by simp [more, h2.2]⟩, fun _ => ⟨by simpa [more] using hE ⟨0, .data⟩ (by simp) rfl, by simpa [more] using hE ⟨3, .data⟩ (by simp) rfl⟩, fun h => by have h2 := hI.o5 (by simpa [more] using h); simp [more], fun h => by have h2 := hI.o6 (by simpa [more] using h); simp [more, h2], fun h => (T_put' (by decide)).trans (hI.v0 (by simpa [more] using h)), fun h => (T_put' (by decide)).trans (hI.v1 (by simpa [more] using h)), fun h => (T_put' (by decide)).trans (hI.v2 (by simpa [more] using h)), fun h => (T_put' (by decide)).trans (hI.v3 (by simpa [more] using h)), fun _ => ⟨g, T_put (by omega), fun _ => hsl⟩, fun h => by simp [more, h5] at h, fun h => by simp [more, e3] at h, fun _ _ => (hI.s3 e3 h6).later hbel, fun h => by simp [more, h6] at h⟩
      case s5 =>
        have hi : L 5 = false := hi
        have hsz' : a.tmps.size = 52 := hI.fr.1
        have h5 : L 5 = false := hi
        have h6 : L 6 = false := by
          cases h : L 6 with
          | false => rfl
          | true => have h2 := hI.o6 h; rw [h5] at h2; cases h2
        have e4 : L 4 = true := hE ⟨4, .data⟩ (by simp) rfl
        have e3 : L 3 = true := (hI.o4 e4).2
        obtain ⟨g, hg, hsl⟩ := hI.v4 e4
        refine Oper.wp_mono ?_ (ob_call1 (r := fun v _ => v = setV (Oct.join A x)) rfl enters70 hg ((join2_gen (hsl h5)).mono (fun _ w' h => ⟨_, h.1, h.2, rfl⟩)))
        rintro a' w' ⟨v, rfl, hbel, rfl⟩
        exact ⟨hI.fr.put (by decide) (by decide) _, fun h => by have h2 := hI.o3 (by simpa [more] using h); exact ⟨by simp [more, h2.1], by simp [more, h2.2]⟩, fun h => by have h2 := hI.o4 (by simpa [more] using h); exact ⟨by simp [more, h2.1], by simp [more, h2.2]⟩, fun _ => by simpa [more] using hE ⟨4, .data⟩ (by simp) rfl, fun h => by have h2 := hI.o6 (by simpa [more] using h); simp [more], fun h => (T_put' (by decide)).trans (hI.v0 (by simpa [more] using h)), fun h => (T_put' (by decide)).trans (hI.v1 (by simpa [more] using h)), fun h => (T_put' (by decide)).trans (hI.v2 (by simpa [more] using h)), fun h => (T_put' (by decide)).trans (hI.v3 (by simpa [more] using h)), fun _ => ⟨g, (T_put' (by decide)).trans hg, fun h => by simp [more] at h⟩, fun _ => T_put (by omega), fun h => by simp [more, e3] at h, fun _ _ => (hI.s3 e3 h6).later hbel, fun h => by simp [more, h6] at h⟩
      case s6 =>
        have hi : L 6 = false := hi
        have hsz' : a.tmps.size = 52 := hI.fr.1
        have h6 : L 6 = false := hi
        have e5 : L 5 = true := hE ⟨5, .data⟩ (by simp) rfl
        have e4 : L 4 = true := hI.o5 e5
        have e3 : L 3 = true := (hI.o4 e4).2
        have hS3 := hI.s3 e3 h6
        have hv5 := hI.v5 e5
        have hp := (fr8_T hI.fr (k := 5) (by omega)).trans hT5
        obtain ⟨c0, c1, c2, c3⟩ := hS3.all.cells
        have f0 := hS3.all.frozen 0
        have f1 := hS3.all.frozen 1
        have f2 := hS3.all.frozen 2
        have f3 := hS3.all.frozen 3
        refine ob_skip (w' := put4 u Y (Oct.join A x)) ?_ ?_
        · unfold T at hv5 hp
          unfold setV at hv5
          simp [execOp, Act.eval, hv5, hp, go_sem, c0, c1, c2, c3, f0, f1, f2, f3, put4]
        · exact ⟨hI.fr, fun h => by have h2 := hI.o3 (by simpa [more] using h); exact ⟨by simp [more, h2.1], by simp [more, h2.2]⟩, fun h => by have h2 := hI.o4 (by simpa [more] using h); exact ⟨by simp [more, h2.1], by simp [more, h2.2]⟩, fun h => by have h2 := hI.o5 (by simpa [more] using h); simp [more, h2], fun _ => by simp [more, e5], fun h => hI.v0 (by simpa [more] using h), fun h => hI.v1 (by simpa [more] using h), fun h => hI.v2 (by simpa [more] using h), fun h => hI.v3 (by simpa [more] using h), fun h => by obtain ⟨g, hg, _⟩ := hI.v4 (by simpa [more] using h); exact ⟨g, hg, fun h => by simp [more, e5] at h⟩, fun h => hI.v5 (by simpa [more] using h), fun h => by simp [more, e3] at h, fun _ h => by simp [more] at h, fun _ => hS3.put (Oct.join A x)⟩
    intro k p hp
    have := allFrom_at h k p (by simpa using hp)
    rwa [Nat.zero_add] at this
end Go.Proofs.Ytjmbimgofceanaa

/- The region of ere's set that joins one item more, where the item gives up; the region that takes the newline out. -/
namespace Go.Proofs.Ytjmbimgofceanaa
open Go Go.RowKit

structure Inv8b (w : World) (s : ByteArray) (B Y R d : Nat) (i o : Nat) (A : Oct.S) (act : Act) (L : Nat → Bool) (a : Act) (u : World) : Prop where
  fr : Fr8 act a
  n3 : L 3 = false
  n4 : L 4 = false
  n5 : L 5 = false
  v1 : L 1 = true → T a 34 = .pointer (some ⟨B, 0, none⟩)
  v2 : L 2 = true → T a 35 = .int .i64 (o : Nat)
  s0 : Sx w s B Y R d u i A
set_option maxRecDepth 100000 in
theorem reg8_bad {act : Act} {w : World} {s : ByteArray} {B Y R d : Nat} {W : World} {i o : Nat} {A : Oct.S} {x c : Nat} {Q : Exit → Act → World → Prop} (hT0 : T act 0 = .pointer (some ⟨B, 0, none⟩)) (hT3 : T act 3 = .int .i64 (o : Nat)) (hT5 : T act 5 = .pointer (some ⟨Y, 0, none⟩)) (hsz : act.tmps.size = 52)
    (hS : Sx w s B Y R d W i A) (hi : i ≤ s.size) (hs : s.size ≤ 1024) (hit : item s o i = .bad x c)
    (K : ∀ a' W', a'.defers = act.defers → w.grownBy W' (some B) → Q (.panic [{ v := flt x c, recovered := false }]) a' W') : (Code.region 8 (opsOf Try.f86 8) true).wp Try.prog Q act W := by
  refine wp_region_inv (by kernel_rfl) (Inv8b w s B Y R d i o A act) ?wf ?step ?fin ?zero
  case zero =>
    intro L hL
    exact ⟨⟨hsz, rfl, fun _ _ => rfl⟩, hL 3 (by decide), hL 4 (by decide), hL 5 (by decide), by simp [hL 1 (by decide)], by simp [hL 2 (by decide)], hS.later (Below.refl _ _).drew⟩
  case fin =>
    intro L a u hL hI
    have h1 := hL 3 (by decide)
    rw [hI.n3] at h1
    cases h1
  case wf =>
    have h : AllFrom (fun i o => ∀ e ∈ o.after, e.on < i) 0 (opsOf Try.f86 8).toList := by
      refine ⟨by simp, by simp, by simp, by simp, by simp, by simp, by simp, trivial⟩
    intro i o e ho he _
    have := allFrom_at h i o (by simpa using ho) e he
    omega
  case step =>
    have h : AllFrom (fun k p => p.guard = none ∧ ∀ L a u, Inv8b w s B Y R d i o A act L a u → L k = false → (∀ e ∈ p.after, Region.binds .any e = true → L e.on = true) → p.wp Try.prog a u (fun a' w' => Inv8b w s B Y R d i o A act (more L k) a' w') Q) 0 (opsOf Try.f86 8).toList := by
      refine ⟨⟨rfl, fun L a u hI hk hE => ?s0⟩, ⟨rfl, fun L a u hI hk hE => ?s1⟩, ⟨rfl, fun L a u hI hk hE => ?s2⟩, ⟨rfl, fun L a u hI hk hE => ?s3⟩, ⟨rfl, fun L a u hI hk hE => ?s4⟩, ⟨rfl, fun L a u hI hk hE => ?s5⟩, ⟨rfl, fun L a u hI hk hE => ?s6⟩, trivial⟩
      case s0 =>
        have hsz' : a.tmps.size = 52 := hI.fr.1
        refine Oper.wp_mono ?_ (ob_load4 (r := fun v _ => v = setV A) rfl ((fr8_T hI.fr (by omega)).trans hT5) hI.s0.all rfl)
        rintro a' w' ⟨v, rfl, hbel, rfl⟩
        exact ⟨hI.fr.put (by decide) (by decide) _, by simp [more, hI.n3], by simp [more, hI.n4], by simp [more, hI.n5], fun h => (T_put' (by decide)).trans (hI.v1 (by simpa [more] using h)), fun h => (T_put' (by decide)).trans (hI.v2 (by simpa [more] using h)), hI.s0.later hbel⟩
      case s1 =>
        have hsz' : a.tmps.size = 52 := hI.fr.1
        refine Oper.wp_mono ?_ (ob_move (r := fun v _ => v = .pointer (some ⟨B, 0, none⟩)) rfl ((fr8_T hI.fr (by omega)).trans hT0) rfl)
        rintro a' w' ⟨v, rfl, hbel, rfl⟩
        exact ⟨hI.fr.put (by decide) (by decide) _, by simp [more, hI.n3], by simp [more, hI.n4], by simp [more, hI.n5], fun _ => T_put (by omega), fun h => (T_put' (by decide)).trans (hI.v2 (by simpa [more] using h)), hI.s0.later hbel⟩
      case s2 =>
        have hsz' : a.tmps.size = 52 := hI.fr.1
        refine Oper.wp_mono ?_ (ob_move (r := fun v _ => v = .int .i64 (o : Nat)) rfl ((fr8_T hI.fr (by omega)).trans hT3) rfl)
        rintro a' w' ⟨v, rfl, hbel, rfl⟩
        exact ⟨hI.fr.put (by decide) (by decide) _, by simp [more, hI.n3], by simp [more, hI.n4], by simp [more, hI.n5], fun h => (T_put' (by decide)).trans (hI.v1 (by simpa [more] using h)), fun _ => T_put (by omega), hI.s0.later hbel⟩
      case s3 =>
        have hx1 := hI.v1 (hE ⟨1, .data⟩ (by simp) rfl)
        have hx2 := hI.v2 (hE ⟨2, .data⟩ (by simp) rfl)
        refine ob_call2any rfl enters69 hx1 hx2 ((item_walk B o i d s u hI.s0.rd hi hs hI.s0.gm).mono ?_)
        intro e w' hr
        rw [hit] at hr
        obtain ⟨rfl, hg⟩ := hr
        exact .inr ⟨_, rfl, K a w' hI.fr.2.1 (grown_trans hI.s0.grown hg)⟩
      case s4 =>
        have h1 : L 3 = true := hE ⟨3, .data⟩ (by simp) rfl
        rw [hI.n3] at h1
        cases h1
      case s5 =>
        have h1 : L 4 = true := hE ⟨4, .data⟩ (by simp) rfl
        rw [hI.n4] at h1
        cases h1
      case s6 =>
        have h1 : L 5 = true := hE ⟨5, .data⟩ (by simp) rfl
        rw [hI.n5] at h1
        cases h1
    intro k p hp
    have := allFrom_at h k p (by simpa using hp)
    rwa [Nat.zero_add] at this
/-! ### the newline taken out -/
def Fr12 (act a : Act) : Prop := a.tmps.size = 52 ∧ a.defers = act.defers ∧ ∀ k, k < 49 → a.tmps[k]? = act.tmps[k]?
theorem Fr12.put {act a : Act} (h : Fr12 act a) {k : Nat} (hd : 49 ≤ k) (v : Value) : Fr12 act (a.put (some k) v) := by
  refine ⟨by simpa [Act.put] using h.1, by simpa [Act.put] using h.2.1, fun j hj => ?_⟩
  rw [← h.2.2 j hj]
  simp only [Act.put]
  exact Array.getElem?_setIfInBounds_ne (by omega)
theorem fr12_T {act a : Act} (h : Fr12 act a) {k : Nat} (hk : k < 49) : T a k = T act k := by unfold T; rw [h.2.2 k hk]
theorem enters64 : Enters 87 := fun args w => by simp [go_sem]
theorem Sx.putR {w : World} {s : ByteArray} {B Y R d : Nat} {u : World} {i : Nat} {A : Oct.S} (h : Sx w s B Y R d u i A) (t : Oct.S) : SB (put4 u R t) R t ∧ RB (put4 u R t) B s i d ∧ w.grownBy (put4 u R t) (some B) :=
  ⟨h.res.put4 t, rb_put4 h.rd (by have := h.hR; have := h.hB; omega) t, grown_put4 h.grown h.hR t⟩
structure Inv12 (w : World) (s : ByteArray) (B Y R d : Nat) (i : Nat) (A : Oct.S) (act : Act) (L : Nat → Bool) (a : Act) (u : World) : Prop where
  fr : Fr12 act a
  o2 : L 2 = true → L 0 = true ∧ L 1 = true
  o3 : L 3 = true → L 2 = true
  v0 : L 0 = true → T a 49 = setV A
  v1 : L 1 = true → T a 50 = setV ordinary
  v2 : L 2 = true → T a 51 = setV (Oct.meet A ordinary)
  s0 : L 3 = false → Sx w s B Y R d u i A
  s3 : L 3 = true → SB u R (Oct.meet A ordinary) ∧ RB u B s i d ∧ w.grownBy u (some B)
set_option maxRecDepth 20000 in
theorem ob_call0 {o : Oper} {a : Act} {w : World} {r : Value → World → Prop} {Q : Exit → Act → World → Prop} {f : Nat} {ts : Array TypeId} (ho : o.op = .call { callee := .value (.func f), args := #[], argTypes := ts }) (hf : Enters f) (hc : Calls Try.prog f #[] w fun e w' => ∃ v, e = .returned v ∧ Below w.heap.size w w' ∧ r v w') : o.wp Try.prog a w (Leaves r o a w) Q := by
  obtain ⟨dst, op, type, pos, after, guard⟩ := o
  simp only at ho
  subst ho
  refine ob_enter (args := #[]) ?_ hc
  simp [go_sem]
  exact hf _ _
set_option maxRecDepth 100000 in
theorem reg12 {act : Act} {w : World} {s : ByteArray} {B Y R d : Nat} {W : World} {i : Nat} {A : Oct.S} {Q : Exit → Act → World → Prop} (hT2 : T act 2 = .pointer (some ⟨R, 0, none⟩)) (hT5 : T act 5 = .pointer (some ⟨Y, 0, none⟩)) (hsz : act.tmps.size = 52)
    (hS : Sx w s B Y R d W i A)
    (K : ∀ a' W', Fr12 act a' → SB W' R (Oct.meet A ordinary) → RB W' B s i d → w.grownBy W' (some B) → Q .normal a' W') : (Code.region 12 (opsOf Try.f86 12) true).wp Try.prog Q act W := by
  refine wp_region_inv (by kernel_rfl) (Inv12 w s B Y R d i A act) ?wf ?step ?fin ?zero
  case zero =>
    intro L hL
    have h0 := hL 0 (by decide)
    have h1 := hL 1 (by decide)
    have h2 := hL 2 (by decide)
    have h3 := hL 3 (by decide)
    exact ⟨⟨hsz, rfl, fun _ _ => rfl⟩, by simp [h2], by simp [h3], by simp [h0], by simp [h1], by simp [h2], fun _ => hS.later (Below.refl _ _).drew, by simp [h3]⟩
  case fin =>
    intro L a u hL hI
    obtain ⟨h1, h2, h3⟩ := hI.s3 (hL 3 (by decide))
    exact K a u hI.fr h1 h2 h3
  case wf =>
    have h : AllFrom (fun i o => ∀ e ∈ o.after, e.on < i) 0 (opsOf Try.f86 12).toList := by
      refine ⟨by simp, by simp, by simp, by simp, trivial⟩
    intro i o e ho he _
    have := allFrom_at h i o (by simpa using ho) e he
    omega
  case step =>
    have h : AllFrom (fun k p => p.guard = none ∧ ∀ L a u, Inv12 w s B Y R d i A act L a u → L k = false → (∀ e ∈ p.after, Region.binds .any e = true → L e.on = true) → p.wp Try.prog a u (fun a' w' => Inv12 w s B Y R d i A act (more L k) a' w') Q) 0 (opsOf Try.f86 12).toList := by
      refine ⟨⟨rfl, fun L a u hI hk hE => ?s0⟩, ⟨rfl, fun L a u hI hk hE => ?s1⟩, ⟨rfl, fun L a u hI hk hE => ?s2⟩, ⟨rfl, fun L a u hI hk hE => ?s3⟩, trivial⟩
      case s0 =>
        have hk : L 0 = false := hk
        have hsz' : a.tmps.size = 52 := hI.fr.1
        have h2 : L 2 = false := by
          cases h : L 2 with
          | false => rfl
          | true => have h2 := hI.o2 h; rw [hk] at h2; cases h2.1
        have h3 : L 3 = false := by
          cases h : L 3 with
          | false => rfl
          | true => have h4 := hI.o3 h; rw [h2] at h4; cases h4
        refine Oper.wp_mono ?_ (ob_load4 (r := fun v _ => v = setV A) rfl ((fr12_T hI.fr (by omega)).trans hT5) (hI.s0 h3).all rfl)
        rintro a' w' ⟨v, rfl, hbel, rfl⟩
        exact ⟨hI.fr.put (by decide) _, fun h => by simp [more, h2] at h, fun h => by simp [more, h3] at h, fun _ => T_put (by omega), fun h => (T_put' (by decide)).trans (hI.v1 (by simpa [more] using h)), fun h => by simp [more, h2] at h, fun _ => (hI.s0 h3).later hbel, fun h => by simp [more, h3] at h⟩
      case s1 =>
        have hk : L 1 = false := hk
        have hsz' : a.tmps.size = 52 := hI.fr.1
        have h2 : L 2 = false := by
          cases h : L 2 with
          | false => rfl
          | true => have h2 := hI.o2 h; rw [hk] at h2; cases h2.2
        have h3 : L 3 = false := by
          cases h : L 3 with
          | false => rfl
          | true => have h4 := hI.o3 h; rw [h2] at h4; cases h4
        refine Oper.wp_mono ?_ (ob_call0 (r := fun v _ => v = setV ordinary) rfl enters64 ((ordinary_any u).mono (fun _ w' h => ⟨_, h.1, h.2, rfl⟩)))
        rintro a' w' ⟨v, rfl, hbel, rfl⟩
        exact ⟨hI.fr.put (by decide) _, fun h => by simp [more, h2] at h, fun h => by simp [more, h3] at h, fun h => (T_put' (by decide)).trans (hI.v0 (by simpa [more] using h)), fun _ => T_put (by omega), fun h => by simp [more, h2] at h, fun _ => (hI.s0 h3).later hbel, fun h => by simp [more, h3] at h⟩
      case s2 =>
        have hk : L 2 = false := hk
        have hsz' : a.tmps.size = 52 := hI.fr.1
        have h3 : L 3 = false := by
          cases h : L 3 with
          | false => rfl
          | true => have h4 := hI.o3 h; rw [hk] at h4; cases h4
        have e0 : L 0 = true := hE ⟨0, .data⟩ (by simp) rfl
        have e1 : L 1 = true := hE ⟨1, .data⟩ (by simp) rfl
        refine Oper.wp_mono ?_ (ob_call2 (r := fun v _ => v = setV (Oct.meet A ordinary)) rfl enters72 (hI.v0 e0) (hI.v1 e1) ((meet_any A ordinary u).mono (fun _ w' h => ⟨_, h.1, h.2, rfl⟩)))
        rintro a' w' ⟨v, rfl, hbel, rfl⟩
        exact ⟨hI.fr.put (by decide) _, fun _ => ⟨by simp [more, e0], by simp [more, e1]⟩, fun h => by simp [more, h3] at h, fun h => (T_put' (by decide)).trans (hI.v0 (by simpa [more] using h)), fun h => (T_put' (by decide)).trans (hI.v1 (by simpa [more] using h)), fun _ => T_put (by omega), fun _ => (hI.s0 h3).later hbel, fun h => by simp [more, h3] at h⟩
      case s3 =>
        have hk : L 3 = false := hk
        have e2 : L 2 = true := hE ⟨2, .data⟩ (by simp) rfl
        have hS0 := hI.s0 hk
        have hv := hI.v2 e2
        have hp := (fr12_T hI.fr (k := 2) (by omega)).trans hT2
        obtain ⟨c0, c1, c2, c3⟩ := hS0.res.cells
        have f0 := hS0.res.frozen 0
        have f1 := hS0.res.frozen 1
        have f2 := hS0.res.frozen 2
        have f3 := hS0.res.frozen 3
        refine ob_skip (w' := put4 u R (Oct.meet A ordinary)) ?_ ?_
        · unfold T at hv hp
          unfold setV at hv
          simp [execOp, Act.eval, hv, hp, go_sem, c0, c1, c2, c3, f0, f1, f2, f3, put4]
        · exact ⟨hI.fr, fun h => by have h2 := hI.o2 (by simpa [more] using h); exact ⟨by simp [more, h2.1], by simp [more, h2.2]⟩, fun _ => by simp [more, e2], fun h => hI.v0 (by simpa [more] using h), fun h => hI.v1 (by simpa [more] using h), fun h => hI.v2 (by simpa [more] using h), fun h => by simp [more] at h, fun _ => hS0.putR _⟩
    intro k p hp
    have := allFrom_at h k p (by simpa using hp)
    rwa [Nat.zero_add] at this
end Go.Proofs.Ytjmbimgofceanaa

