/- heronref16: the drawn region of Feed that appends a byte to a row (typed by gen/lnreg.py). -/
import Derived.Test.YtjmjhmohholmbaaG12
namespace Go.Proofs.Ytjmjhmohholmbaa
open Go.RowKit Go.Maps Ln

set_option linter.unusedVariables false in
def RFd (B yb yo yn yc k : Nat) (V : Value) (bs : List UInt8) (c : UInt8) (w0 : World) : Nat → Value → World → Prop
  | 0, v, _ => v = .pointer (some ⟨B, 0, none⟩)
  | 1, v, _ => v = .pointer (some ⟨B, 0, none⟩)
  | 2, v, _ => v = .pointer (some ⟨B, 0, none⟩)
  | 3, v, _ => v = .pointer (some ⟨B, 1, none⟩)
  | 4, v, _ => v = V
  | 5, v, _ => v = .slice (some ⟨yb, yo, none⟩) yn yc
  | 6, v, _ => v = .int .i64 (k : Nat)
  | 7, v, _ => v = .pointer (some ⟨yb, yo + k, none⟩)
  | 8, v, _ => v = .int .u8 (c.toNat : Nat)
  | 9, v, w => ∃ g, v = .slice (some ⟨g, 0, none⟩) 1 1 ∧ w0.heap.size ≤ g ∧ LAt w v (uv [c])
  | 10, v, w => ∃ V', v = V' ∧ OwnB w V' (bs ++ [c]) ∧ ∀ x, V'.ownBlock = some x → V.ownBlock = some x ∨ w0.heap.size ≤ x
  | 11, v, _ => v = .pointer (some ⟨B, 0, none⟩)
  | 12, v, _ => v = .pointer (some ⟨B, 1, none⟩)
  | _, _, _ => True
set_option linter.unusedVariables false in
set_option maxRecDepth 100000 in
set_option maxHeartbeats 2000000 in
theorem regFd (B yb yo yn yc k : Nat) (V : Value) (bs : List UInt8) (c : UInt8) {act : Act} {w0 : World} {Q : Exit → Act → World → Prop} {ops : Array Oper} (hops : ops = opsOf Try.f17 5) (hsz : act.tmps.size = 62) (q0 : T act 0 = .pointer (some ⟨B, 0, none⟩)) (q1 : T act 1 = .slice (some ⟨yb, yo, none⟩) yn yc) (q7 : T act 7 = .int .i64 (k : Nat)) (cV : w0.cell? ⟨B, 1, none⟩ = some V) (nB : ¬ Xb V B) (ho : OwnB w0 V bs) (hkn : k < yn) (hY : ∀ w, FrP (Xb V) w0 w → w.cell? ⟨yb, yo + k, none⟩ = some (.int .u8 (c.toNat : Nat))) (fz : ∀ w, FrP (Xb V) w0 w → w.frozen? ⟨B, 1, none⟩ = false) (hl : bs.length ≤ 1099511627776)
    (K : ∀ a' w' V', FrS 20 33 62 act a' → FrP (Xb V) w0 w' → OwnB w' V' (bs ++ [c]) → (∀ x, V'.ownBlock = some x → V.ownBlock = some x ∨ w0.heap.size ≤ x) → Q .normal a' (w'.setCell ⟨B, 1, none⟩ V')) : (Code.region 5 ops true).wp Try.prog Q act w0 := by
  subst hops
  refine wp_region_lastx (by kernel_rfl) 13 10 (Xb V) (fun w => OwnB w V bs) (fun i => false) ?pre ?preB (by kernel_rfl) (by decide) (fun i => 20 + i) (RFd B yb yo yn yc k V bs c w0) (FrS 20 33 62 act) ?upB ?upX ?late ?f0 ?sz ?inj (by kernel_rfl) ?duty ⟨hsz, rfl, fun _ _ => rfl⟩
  case pre => exact ho
  case preB => intro w w' h hb; exact h.keep (fun b _ hl => hb.block b hl)
  case upB =>
    intro i v w w' h hb
    match i, h with
    | 0, h => exact h
    | 1, h => exact h
    | 2, h => exact h
    | 3, h => exact h
    | 4, h => exact h
    | 5, h => exact h
    | 6, h => exact h
    | 7, h => exact h
    | 8, h => exact h
    | 9, ⟨g, h1, h2, h3⟩ => exact ⟨g, h1, h2, h3.later hb⟩
    | 10, ⟨V', h1, h2, h3⟩ => exact ⟨V', h1, h2.keep (fun b _ hl => hb.block b hl), h3⟩
    | 11, h => exact h
    | 12, h => exact h
    | _ + 13, _ => trivial
  case upX =>
    intro i v w w' hs hlt h hW hw
    match i, hs, hlt, h with
    | 0, hs, hlt, h => exact h
    | 1, hs, hlt, h => exact h
    | 2, hs, hlt, h => exact h
    | 3, hs, hlt, h => exact h
    | 4, hs, hlt, h => exact h
    | 5, hs, hlt, h => exact h
    | 6, hs, hlt, h => exact h
    | 7, hs, hlt, h => exact h
    | 8, hs, hlt, h => exact h
    | 9, hs, hlt, ⟨g, h1, h2, h3⟩ => exact ⟨g, h1, h2, by rw [h1] at h3 ⊢; exact lat_frp hw (fun x => by have := (ho.ty x).2; omega) h3⟩
    | 10, hs, hlt, _ => exact absurd rfl hs
    | 11, hs, hlt, h => exact h
    | 12, hs, hlt, h => exact h
    | _ + 13, _, _, _ => trivial
  case late => exact late_ok (by kernel_rfl)
  case f0 => intro a i v hi h; exact h.put (by omega) v
  case sz => intro a i hi h; rw [h.1]; show 20 + i < 62; omega
  case inj => intro i j _ _ h; have h : 20 + i = 20 + j := h; omega
  case duty =>
    refine ⟨⟨fun _ => ⟨rfl, rfl, (by simp), fun a w hF hB hP hE Q => ?s0⟩, fun h => absurd h (by decide)⟩, ⟨fun _ => ⟨rfl, rfl, (by simp), fun a w hF hB hP hE Q => ?s1⟩, fun h => absurd h (by decide)⟩, ⟨fun _ => ⟨rfl, rfl, (by simp), fun a w hF hB hP hE Q => ?s2⟩, fun h => absurd h (by decide)⟩, ⟨fun _ => ⟨rfl, rfl, (by simp), fun a w hF hB hP hE Q => ?s3⟩, fun h => absurd h (by decide)⟩, ⟨fun _ => ⟨rfl, rfl, (by simp), fun a w hF hB hP hE Q => ?s4⟩, fun h => absurd h (by decide)⟩, ⟨fun _ => ⟨rfl, rfl, (by simp), fun a w hF hB hP hE Q => ?s5⟩, fun h => absurd h (by decide)⟩, ⟨fun _ => ⟨rfl, rfl, (by simp), fun a w hF hB hP hE Q => ?s6⟩, fun h => absurd h (by decide)⟩, ⟨fun _ => ⟨rfl, rfl, (by simp), fun a w hF hB hP hE Q => ?s7⟩, fun h => absurd h (by decide)⟩, ⟨fun _ => ⟨rfl, rfl, (by simp), fun a w hF hB hP hE Q => ?s8⟩, fun h => absurd h (by decide)⟩, ⟨fun _ => ⟨rfl, rfl, (by simp), fun a w hF hB hP hE Q => ?s9⟩, fun h => absurd h (by decide)⟩, ⟨fun _ => ⟨rfl, rfl, (by simp), fun a w hF hB hP hE Q => ?s10⟩, fun h => absurd h (by decide)⟩, ⟨fun _ => ⟨rfl, rfl, (by simp), fun a w hF hB hP hE Q => ?s11⟩, fun h => absurd h (by decide)⟩, ⟨fun _ => ⟨rfl, rfl, (by simp), fun a w hF hB hP hE Q => ?s12⟩, fun h => absurd h (by decide)⟩, ⟨fun h => absurd h (by decide), fun _ => ⟨rfl, (by simp), fun a w hF hB hR => ?last⟩⟩, trivial⟩
    case s0 =>
      have f0 := hF.slot (k := 0) (by omega) q0
      exact oby (ob_value (v := .pointer (some ⟨B, 0, none⟩)) (w' := w) (by simp [execOp, Act.eval, go_sem, f0]) (Below.refl _ _) rfl)
    case s1 =>
      have f0 := hF.slot (k := 0) (by omega) q0
      exact oby (ob_value (v := .pointer (some ⟨B, 0, none⟩)) (w' := w) (by simp [execOp, Act.eval, go_sem, f0]) (Below.refl _ _) rfl)
    case s2 =>
      have h1 : T a 21 = .pointer (some ⟨B, 0, none⟩) := hE ⟨1, .data⟩ (by simp) rfl
      exact oby (ob_value (v := .pointer (some ⟨B, 0, none⟩)) (w' := w) (by simp [execOp, Act.eval, go_sem, h1]) (Below.refl _ _) rfl)
    case s3 =>
      have h2 : T a 22 = .pointer (some ⟨B, 0, none⟩) := hE ⟨2, .data⟩ (by simp) rfl
      exact oby (ob_value (v := .pointer (some ⟨B, 1, none⟩)) (w' := w) (by simp [execOp, Act.eval, go_sem, h2]) (Below.refl _ _) rfl)
    case s4 =>
      have h3 : T a 23 = .pointer (some ⟨B, 1, none⟩) := hE ⟨3, .data⟩ (by simp) rfl
      have x0 := cell_frp hB nB cV
      exact oby (ob_value (v := V) (w' := w) (by simp [execOp, Act.eval, go_sem, h3, x0]) (Below.refl _ _) rfl)
    case s5 =>
      have f1 := hF.slot (k := 1) (by omega) q1
      exact oby (ob_value (v := .slice (some ⟨yb, yo, none⟩) yn yc) (w' := w) (by simp [execOp, Act.eval, go_sem, f1]) (Below.refl _ _) rfl)
    case s6 =>
      have f7 := hF.slot (k := 7) (by omega) q7
      exact oby (ob_value (v := .int .i64 (k : Nat)) (w' := w) (by simp [execOp, Act.eval, go_sem, f7]) (Below.refl _ _) rfl)
    case s7 =>
      have h5 : T a 25 = .slice (some ⟨yb, yo, none⟩) yn yc := hE ⟨5, .data⟩ (by simp) rfl
      have h6 : T a 26 = .int .i64 (k : Nat) := hE ⟨6, .data⟩ (by simp) rfl
      exact oby (ob_value (v := .pointer (some ⟨yb, yo + k, none⟩)) (w' := w) (by simp [execOp, Act.eval, go_sem, h5, h6, hkn]) (Below.refl _ _) rfl)
    case s8 =>
      have h7 : T a 27 = .pointer (some ⟨yb, yo + k, none⟩) := hE ⟨7, .data⟩ (by simp) rfl
      have x0 := hY w hB
      exact oby (ob_value (v := .int .u8 (c.toNat : Nat)) (w' := w) (by simp [execOp, Act.eval, go_sem, h7, x0]) (Below.refl _ _) rfl)
    case s9 =>
      have h8 : T a 28 = .int .u8 (c.toNat : Nat) := hE ⟨8, .data⟩ (by simp) rfl
      refine oby (ob_value (v := .slice (some ⟨w.heap.size, 0, none⟩) 1 1) (w' := w.alloc (.cells #[.int .u8 (c.toNat : Nat)] 5)) (by simp [execOp, Act.eval, go_sem, h8]) ((Below.refl _ _).alloc (Nat.le_refl _) _) ⟨w.heap.size, rfl, hB.size, lat_lit w _ _ _⟩)
    case s10 =>
      have h4 : T a 24 = V := hE ⟨4, .data⟩ (by simp) rfl
      obtain ⟨g, hv9, hg, hla⟩ := hE ⟨9, .data⟩ (by simp) rfl
      rw [show T a (20 + 9) = T a 29 from rfl] at hv9 hla
      rw [hv9] at hla
      refine oby_append rfl (.tmp 24) (.tmp 29) rfl (.int .u8 0) 1 (by kernel_rfl) (by kernel_rfl) infB rfl V bs.length (uv bs) (by rw [ev_T]; exact h4) (hP rfl) _ (uv [c]) (by rw [ev_T]; exact hv9) hla (uv_one [c]) (by rw [uv_len]; simp only [List.length_singleton]; unfold maxLen; omega) (by rw [uv_len]; simp only [List.length_singleton]; omega) (fun k hk => hk) (fun V' w' h1 h2 => ⟨V', rfl, ?_, fun g hg => ?_⟩)
      · unfold OwnB
        rw [uv_app, List.length_append]
        rw [uv_len] at h1
        exact h1
      · rcases h2 g hg with h3 | h3
        · exact .inl h3
        · exact .inr (Nat.le_trans hB.size h3)
    case s11 =>
      have h0 : T a 20 = .pointer (some ⟨B, 0, none⟩) := hE ⟨0, .data⟩ (by simp) rfl
      exact oby (ob_value (v := .pointer (some ⟨B, 0, none⟩)) (w' := w) (by simp [execOp, Act.eval, go_sem, h0]) (Below.refl _ _) rfl)
    case s12 =>
      have h11 : T a 31 = .pointer (some ⟨B, 0, none⟩) := hE ⟨11, .data⟩ (by simp) rfl
      exact oby (ob_value (v := .pointer (some ⟨B, 1, none⟩)) (w' := w) (by simp [execOp, Act.eval, go_sem, h11]) (Below.refl _ _) rfl)
    case last =>
      obtain ⟨V', h10, hrow, hg⟩ := hR 10 (by decide)
      have m12 : T a 32 = .pointer (some ⟨B, 1, none⟩) := hR 12 (by decide)
      have m10 : T a 30 = V' := h10
      have hq := K a w V' hF hB hrow hg
      have cB := cell_frp hB nB cV
      have fB : w.frozen? ⟨B, 1, none⟩ = false := fz w hB
      obtain ⟨v1, v2, hvf⟩ := own_form hrow
      refine sx_skip (w' := w.setCell ⟨B, 1, none⟩ V') ?_ ?_
      · rw [hvf] at m10 ⊢
        simp [execOp, Act.eval, go_sem, m12, m10, cB, fB]
      · exact hq
end Go.Proofs.Ytjmjhmohholmbaa
