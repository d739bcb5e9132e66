/- past: the drawn regions of arrive and grow that append to a row and write a map (typed by gen/pareg.py). -/
import Derived.Test.YtobbcgendjakiaaG33
namespace Go.Proofs.Ytobbcgendjakiaa
open Go.RowKit Go.Maps Sf

def FrS (lo hi sz : Nat) (act a : Act) : Prop := a.tmps.size = sz ∧ a.defers = act.defers ∧ ∀ k, (k < lo ∨ hi ≤ k) → a.tmps[k]? = act.tmps[k]?
theorem FrS.put {lo hi sz : Nat} {act a : Act} (h : FrS lo hi sz act a) {k : Nat} (hk : lo ≤ k ∧ k < hi) (v : Value) : FrS lo hi sz act (a.put (some k) v) := by
  obtain ⟨h1, h2, h3⟩ := h
  refine ⟨by simp [Act.put, h1], by simp [Act.put, h2], fun j hj => ?_⟩
  simp only [Act.put]
  rw [Array.getElem?_setIfInBounds_ne (by omega)]
  exact h3 j hj
theorem FrS.slot {lo hi sz : Nat} {act a : Act} (h : FrS lo hi sz act a) {k : Nat} (hk : k < lo) {v : Value} (hv : T act k = v) : T a k = v := by unfold T at hv ⊢; rw [h.2.2 k (.inl hk)]; exact hv
theorem sx_skip {o : Oper} {a : Act} {w w' : World} {Q : Exit → Act → World → Prop} {K : Act → World → Prop} (h : (execOp a.eval o).run Try.prog w = .ok .skip w') (hR : K (a.put o.dst undef) w') : o.wp Try.prog a w K Q := by
  unfold Oper.wp
  rw [h]
  exact hR
def Xb (V : Value) (k : Nat) : Prop := V.ownBlock = some k
set_option linter.unusedVariables false in
def RArr (B A5 A6 mn : Nat) (s : ByteArray) (q n : Nat) (V : Value) (ks : List Int) (w0 : World) : Nat → Value → World → Prop
  | 0, v, _ => v = .pointer (some ⟨B, 0, none⟩)
  | 1, v, _ => v = .pointer (some ⟨B, 0, none⟩)
  | 2, v, _ => v = .pointer (some ⟨B, 2, none⟩)
  | 3, v, _ => v = .map (some mn)
  | 4, v, _ => v = .string s
  | 5, v, _ => v = .pointer (some ⟨A5, 1, none⟩)
  | 6, v, _ => v = .int .i64 (q : Nat)
  | 7, v, _ => v = .pointer (some ⟨A6, 1, none⟩)
  | 8, v, _ => v = V
  | 9, v, _ => v = .pointer (some ⟨A5, 0, none⟩)
  | 10, v, _ => v = .int .i64 (n : Nat)
  | 11, v, w => ∃ g, v = .slice (some ⟨g, 0, none⟩) 1 1 ∧ w0.heap.size ≤ g ∧ LAt w v [.int .i64 (n : Nat)]
  | 12, v, w => ∃ V', v = V' ∧ OwnI w V' (ks ++ [(n : Int)]) ∧ ∀ g, V'.ownBlock = some g → V.ownBlock = some g ∨ w0.heap.size ≤ g
  | 13, v, w => ∃ V', v = labV q V' ∧ OwnI w V' (ks ++ [(n : Int)]) ∧ ∀ g, V'.ownBlock = some g → V.ownBlock = some g ∨ w0.heap.size ≤ g
  | _, _, _ => True
set_option linter.unusedVariables false in
set_option maxRecDepth 100000 in
set_option maxHeartbeats 2000000 in
theorem regArr (B A5 A6 mn : Nat) (s : ByteArray) (q n : Nat) (V : Value) (ks : List Int) {act : Act} {w0 : World} {Q : Exit → Act → World → Prop} {ops : Array Oper} (hops : ops = opsOf Try.f29 3) (hsz : act.tmps.size = 32) (q0 : T act 0 = .pointer (some ⟨B, 0, none⟩)) (q1 : T act 1 = .string s) (q5 : T act 5 = .pointer (some ⟨A5, 0, none⟩)) (q6 : T act 6 = .pointer (some ⟨A6, 0, none⟩)) (cB : w0.cell? ⟨B, 2, none⟩ = some (.map (some mn))) (cq : w0.cell? ⟨A5, 1, none⟩ = some (.int .i64 (q : Nat))) (cn : w0.cell? ⟨A5, 0, none⟩ = some (.int .i64 (n : Nat))) (cV : w0.cell? ⟨A6, 1, none⟩ = some V) (nB : ¬ Xb V B) (n5 : ¬ Xb V A5) (n6 : ¬ Xb V A6) (ho : OwnI w0 V ks) (hl : ks.length ≤ 1000000000)
    (K : ∀ a' w' V', a'.defers = act.defers → FrP (Xb V) w0 w' → OwnI w' V' (ks ++ [(n : Int)]) → (∀ g, V'.ownBlock = some g → V.ownBlock = some g ∨ w0.heap.size ≤ g) → ∃ u2, (Instr.mapUpdate 75 (.map (some mn)) (.string s) (labV q V')).run Try.prog w' = .ok () u2 ∧ Q .normal a' u2) : (Code.region 3 ops true).wp Try.prog Q act w0 := by
  subst hops
  refine wp_region_lastx (by kernel_rfl) 14 12 (Xb V) (fun w => OwnI w V ks) (fun i => i == 13) ?pre ?preB (by kernel_rfl) (by decide) (fun i => 18 + i) (RArr B A5 A6 mn s q n V ks w0) (FrS 18 32 32 act) ?upB ?upX ?late ?f0 ?sz ?inj (by kernel_rfl) ?duty ⟨hsz, rfl, fun _ _ => rfl⟩
  case pre => exact ho
  case preB => intro w w' h hb; exact h.keep (fun b _ hl => hb.block b hl)
  case upB =>
    intro i v w w' h hb
    match i, h with
    | 0, h => exact h
    | 1, h => exact h
    | 2, h => exact h
    | 3, h => exact h
    | 4, h => exact h
    | 5, h => exact h
    | 6, h => exact h
    | 7, h => exact h
    | 8, h => exact h
    | 9, h => exact h
    | 10, h => exact h
    | 11, ⟨g, h1, h2, h3⟩ => exact ⟨g, h1, h2, h3.later hb⟩
    | 12, ⟨V', h1, h2, h3⟩ => exact ⟨V', h1, h2.keep (fun b _ hl => hb.block b hl), h3⟩
    | 13, ⟨V', h1, h2, h3⟩ => exact ⟨V', h1, h2.keep (fun b _ hl => hb.block b hl), h3⟩
    | _ + 14, _ => trivial
  case upX =>
    intro i v w w' hs hlt h hW hw
    match i, hs, hlt, h with
    | 0, hs, hlt, h => exact h
    | 1, hs, hlt, h => exact h
    | 2, hs, hlt, h => exact h
    | 3, hs, hlt, h => exact h
    | 4, hs, hlt, h => exact h
    | 5, hs, hlt, h => exact h
    | 6, hs, hlt, h => exact h
    | 7, hs, hlt, h => exact h
    | 8, hs, hlt, h => exact h
    | 9, hs, hlt, h => exact h
    | 10, hs, hlt, h => exact h
    | 11, hs, hlt, ⟨g, h1, h2, h3⟩ => exact ⟨g, h1, h2, by rw [h1] at h3 ⊢; exact lat_frp hw (fun x => by have := (ho.ty x).2; omega) h3⟩
    | 12, hs, hlt, _ => exact absurd rfl hs
    | 13, hs, hlt, _ => cases hlt
    | _ + 14, _, _, _ => trivial
  case late => exact late_ok (by kernel_rfl)
  case f0 => intro a i v hi h; exact h.put (by omega) v
  case sz => intro a i hi h; rw [h.1]; show 18 + i < 32; omega
  case inj => intro i j _ _ h; have h : 18 + i = 18 + j := h; omega
  case duty =>
    refine ⟨⟨fun _ => ⟨rfl, rfl, (by simp), fun a w hF hB hP hE Q => ?s0⟩, fun h => absurd h (by decide)⟩, ⟨fun _ => ⟨rfl, rfl, (by simp), fun a w hF hB hP hE Q => ?s1⟩, fun h => absurd h (by decide)⟩, ⟨fun _ => ⟨rfl, rfl, (by simp), fun a w hF hB hP hE Q => ?s2⟩, fun h => absurd h (by decide)⟩, ⟨fun _ => ⟨rfl, rfl, (by simp), fun a w hF hB hP hE Q => ?s3⟩, fun h => absurd h (by decide)⟩, ⟨fun _ => ⟨rfl, rfl, (by simp), fun a w hF hB hP hE Q => ?s4⟩, fun h => absurd h (by decide)⟩, ⟨fun _ => ⟨rfl, rfl, (by simp), fun a w hF hB hP hE Q => ?s5⟩, fun h => absurd h (by decide)⟩, ⟨fun _ => ⟨rfl, rfl, (by simp), fun a w hF hB hP hE Q => ?s6⟩, fun h => absurd h (by decide)⟩, ⟨fun _ => ⟨rfl, rfl, (by simp), fun a w hF hB hP hE Q => ?s7⟩, fun h => absurd h (by decide)⟩, ⟨fun _ => ⟨rfl, rfl, (by simp), fun a w hF hB hP hE Q => ?s8⟩, fun h => absurd h (by decide)⟩, ⟨fun _ => ⟨rfl, rfl, (by simp), fun a w hF hB hP hE Q => ?s9⟩, fun h => absurd h (by decide)⟩, ⟨fun _ => ⟨rfl, rfl, (by simp), fun a w hF hB hP hE Q => ?s10⟩, fun h => absurd h (by decide)⟩, ⟨fun _ => ⟨rfl, rfl, (by simp), fun a w hF hB hP hE Q => ?s11⟩, fun h => absurd h (by decide)⟩, ⟨fun _ => ⟨rfl, rfl, (by simp), fun a w hF hB hP hE Q => ?s12⟩, fun h => absurd h (by decide)⟩, ⟨fun _ => ⟨rfl, rfl, (by simp), fun a w hF hB hP hE Q => ?s13⟩, fun h => absurd h (by decide)⟩, ⟨fun h => absurd h (by decide), fun _ => ⟨rfl, (by simp), fun a w hF hB hR => ?last⟩⟩, trivial⟩
    case s0 =>
      have f0 := hF.slot (k := 0) (by omega) q0
      exact oby (ob_value (v := .pointer (some ⟨B, 0, none⟩)) (w' := w) (by simp [execOp, Act.eval, go_sem, f0]) (Below.refl _ _) rfl)
    case s1 =>
      have h0 : T a 18 = .pointer (some ⟨B, 0, none⟩) := hE ⟨0, .data⟩ (by simp) rfl
      exact oby (ob_value (v := .pointer (some ⟨B, 0, none⟩)) (w' := w) (by simp [execOp, Act.eval, go_sem, h0]) (Below.refl _ _) rfl)
    case s2 =>
      have h1 : T a 19 = .pointer (some ⟨B, 0, none⟩) := hE ⟨1, .data⟩ (by simp) rfl
      exact oby (ob_value (v := .pointer (some ⟨B, 2, none⟩)) (w' := w) (by simp [execOp, Act.eval, go_sem, h1]) (Below.refl _ _) rfl)
    case s3 =>
      have h2 : T a 20 = .pointer (some ⟨B, 2, none⟩) := hE ⟨2, .data⟩ (by simp) rfl
      have x0 := cell_frp hB nB cB
      exact oby (ob_value (v := .map (some mn)) (w' := w) (by simp [execOp, Act.eval, go_sem, h2, x0]) (Below.refl _ _) rfl)
    case s4 =>
      have f1 := hF.slot (k := 1) (by omega) q1
      exact oby (ob_value (v := .string s) (w' := w) (by simp [execOp, Act.eval, go_sem, f1]) (Below.refl _ _) rfl)
    case s5 =>
      have f5 := hF.slot (k := 5) (by omega) q5
      exact oby (ob_value (v := .pointer (some ⟨A5, 1, none⟩)) (w' := w) (by simp [execOp, Act.eval, go_sem, f5]) (Below.refl _ _) rfl)
    case s6 =>
      have h5 : T a 23 = .pointer (some ⟨A5, 1, none⟩) := hE ⟨5, .data⟩ (by simp) rfl
      have x0 := cell_frp hB n5 cq
      exact oby (ob_value (v := .int .i64 (q : Nat)) (w' := w) (by simp [execOp, Act.eval, go_sem, h5, x0]) (Below.refl _ _) rfl)
    case s7 =>
      have f6 := hF.slot (k := 6) (by omega) q6
      exact oby (ob_value (v := .pointer (some ⟨A6, 1, none⟩)) (w' := w) (by simp [execOp, Act.eval, go_sem, f6]) (Below.refl _ _) rfl)
    case s8 =>
      have h7 : T a 25 = .pointer (some ⟨A6, 1, none⟩) := hE ⟨7, .data⟩ (by simp) rfl
      have x0 := cell_frp hB n6 cV
      exact oby (ob_value (v := V) (w' := w) (by simp [execOp, Act.eval, go_sem, h7, x0]) (Below.refl _ _) rfl)
    case s9 =>
      have f5 := hF.slot (k := 5) (by omega) q5
      exact oby (ob_value (v := .pointer (some ⟨A5, 0, none⟩)) (w' := w) (by simp [execOp, Act.eval, go_sem, f5]) (Below.refl _ _) rfl)
    case s10 =>
      have h9 : T a 27 = .pointer (some ⟨A5, 0, none⟩) := hE ⟨9, .data⟩ (by simp) rfl
      have x0 := cell_frp hB n5 cn
      exact oby (ob_value (v := .int .i64 (n : Nat)) (w' := w) (by simp [execOp, Act.eval, go_sem, h9, x0]) (Below.refl _ _) rfl)
    case s11 =>
      have h10 : T a 28 = .int .i64 (n : Nat) := hE ⟨10, .data⟩ (by simp) rfl
      refine oby (ob_value (v := .slice (some ⟨w.heap.size, 0, none⟩) 1 1) (w' := w.alloc (.cells #[.int .i64 (n : Nat)] 3)) (by simp [execOp, Act.eval, go_sem, h10]) ((Below.refl _ _).alloc (Nat.le_refl _) _) ⟨w.heap.size, rfl, hB.size, lat_lit w _ _ _⟩)
    case s12 =>
      have h8 : T a 26 = V := hE ⟨8, .data⟩ (by simp) rfl
      obtain ⟨g, hv11, hg, hla⟩ := hE ⟨11, .data⟩ (by simp) rfl
      rw [show T a (18 + 11) = T a 29 from rfl] at hv11 hla
      rw [hv11] at hla
      refine oby_append rfl (.tmp 26) (.tmp 29) rfl (.int .i64 0) 8 (by kernel_rfl) (by kernel_rfl) infI3 rfl V ks.length (ints ks) (by rw [ev_T]; exact h8) (hP rfl) _ [.int .i64 (n : Nat)] (by rw [ev_T]; exact hv11) hla (fun u hu => by simp at hu; subst hu; rfl) (by simp only [List.length_singleton]; unfold maxLen; omega) (by simp only [List.length_singleton]; omega) (fun k hk => hk) (fun V' w' h1 h2 => ⟨V', rfl, ?_, fun g hg => ?_⟩)
      · have e : ints (ks ++ [(n : Int)]) = ints ks ++ [.int .i64 (n : Nat)] := by simp [ints]
        unfold OwnI
        rw [e, List.length_append]
        exact h1
      · rcases h2 g hg with h3 | h3
        · exact .inl h3
        · exact .inr (Nat.le_trans hB.size h3)
    case s13 =>
      have h6 : T a 24 = .int .i64 (q : Nat) := hE ⟨6, .data⟩ (by simp) rfl
      obtain ⟨V', hv12, hrow⟩ := hE ⟨12, .data⟩ (by simp) rfl
      obtain ⟨v1, v2, hvf⟩ := own_form hrow.1
      have h12 : T a 30 = V' := hv12
      refine oby (ob_value (v := labV q V') (w' := w) ?_ (Below.refl _ _) ⟨V', rfl, hrow⟩)
      unfold labV
      rw [hvf] at h12 ⊢
      simp [execOp, Act.eval, go_sem, h6, h12]
    case last =>
      obtain ⟨V', h13, hrow, hg⟩ := hR 13 (by decide)
      have m3 : T a 21 = .map (some mn) := hR 3 (by decide)
      have m4 : T a 22 = .string s := hR 4 (by decide)
      have m13 : T a 31 = labV q V' := h13
      obtain ⟨u2, hr, hQ⟩ := K a w V' hF.2.1 hB hrow hg
      refine sx_skip (w' := u2) ?_ hQ
      simp [execOp, Act.eval, go_sem, m3, m4, m13, hr]
set_option linter.unusedVariables false in
def RGrw (B A6 mt : Nat) (n g : Nat) (V Y : Value) (bs ms : List UInt8) (w0 : World) : Nat → Value → World → Prop
  | 0, v, _ => v = .pointer (some ⟨B, 0, none⟩)
  | 1, v, _ => v = .pointer (some ⟨B, 0, none⟩)
  | 2, v, _ => v = .pointer (some ⟨B, 0, none⟩)
  | 3, v, _ => v = .map (some mt)
  | 4, v, _ => v = .agg #[.int .i64 (n : Nat), .int .i64 (g : Nat)]
  | 5, v, _ => v = V
  | 6, v, w => v = Y ∧ LAt w Y (uv ms)
  | 7, v, w => ∃ V', v = V' ∧ OwnB w V' (bs ++ ms) ∧ ∀ x, V'.ownBlock = some x → V.ownBlock = some x ∨ w0.heap.size ≤ x
  | _, _, _ => True
set_option linter.unusedVariables false in
set_option maxRecDepth 100000 in
set_option maxHeartbeats 2000000 in
theorem regGrw (B A6 mt : Nat) (n g : Nat) (V Y : Value) (bs ms : List UInt8) {act : Act} {w0 : World} {Q : Exit → Act → World → Prop} {ops : Array Oper} (hops : ops = opsOf Try.f30 6) (hsz : act.tmps.size = 67) (q0 : T act 0 = .pointer (some ⟨B, 0, none⟩)) (q6 : T act 6 = .pointer (some ⟨A6, 0, none⟩)) (q7 : T act 7 = V) (q8 : T act 8 = Y) (cB : w0.cell? ⟨B, 0, none⟩ = some (.map (some mt))) (c60 : w0.cell? ⟨A6, 0, none⟩ = some (.int .i64 (n : Nat))) (c61 : w0.cell? ⟨A6, 1, none⟩ = some (.int .i64 (g : Nat))) (nB : ¬ Xb V B) (n6 : ¬ Xb V A6) (ho : OwnB w0 V bs) (hY : ∀ w, FrP (Xb V) w0 w → LAt w Y (uv ms)) (hl : bs.length + ms.length ≤ 2000000)
    (K : ∀ a' w' V', a'.defers = act.defers → FrP (Xb V) w0 w' → OwnB w' V' (bs ++ ms) → (∀ x, V'.ownBlock = some x → V.ownBlock = some x ∨ w0.heap.size ≤ x) → ∃ u2, (Instr.mapUpdate 73 (.map (some mt)) (.agg #[.int .i64 (n : Nat), .int .i64 (g : Nat)]) V').run Try.prog w' = .ok () u2 ∧ Q .normal a' u2) : (Code.region 6 ops true).wp Try.prog Q act w0 := by
  subst hops
  refine wp_region_lastx (by kernel_rfl) 8 7 (Xb V) (fun w => OwnB w V bs) (fun i => false) ?pre ?preB (by kernel_rfl) (by decide) (fun i => 59 + i) (RGrw B A6 mt n g V Y bs ms w0) (FrS 59 67 67 act) ?upB ?upX ?late ?f0 ?sz ?inj (by kernel_rfl) ?duty ⟨hsz, rfl, fun _ _ => rfl⟩
  case pre => exact ho
  case preB => intro w w' h hb; exact h.keep (fun b _ hl => hb.block b hl)
  case upB =>
    intro i v w w' h hb
    match i, h with
    | 0, h => exact h
    | 1, h => exact h
    | 2, h => exact h
    | 3, h => exact h
    | 4, h => exact h
    | 5, h => exact h
    | 6, ⟨h1, h2⟩ => exact ⟨h1, h2.later hb⟩
    | 7, ⟨V', h1, h2, h3⟩ => exact ⟨V', h1, h2.keep (fun b _ hl => hb.block b hl), h3⟩
    | _ + 8, _ => trivial
  case upX =>
    intro i v w w' hs hlt h hW hw
    match i, hs, hlt, h with
    | 0, hs, hlt, h => exact h
    | 1, hs, hlt, h => exact h
    | 2, hs, hlt, h => exact h
    | 3, hs, hlt, h => exact h
    | 4, hs, hlt, h => exact h
    | 5, hs, hlt, h => exact h
    | 6, hs, hlt, ⟨h1, h2⟩ => exact ⟨h1, hY w' (hW.trans hw (fun _ _ h => h))⟩
    | 7, hs, hlt, _ => exact absurd rfl hs
    | _ + 8, _, _, _ => trivial
  case late => exact late_ok (by kernel_rfl)
  case f0 => intro a i v hi h; exact h.put (by omega) v
  case sz => intro a i hi h; rw [h.1]; show 59 + i < 67; omega
  case inj => intro i j _ _ h; have h : 59 + i = 59 + j := h; omega
  case duty =>
    refine ⟨⟨fun _ => ⟨rfl, rfl, (by simp), fun a w hF hB hP hE Q => ?s0⟩, fun h => absurd h (by decide)⟩, ⟨fun _ => ⟨rfl, rfl, (by simp), fun a w hF hB hP hE Q => ?s1⟩, fun h => absurd h (by decide)⟩, ⟨fun _ => ⟨rfl, rfl, (by simp), fun a w hF hB hP hE Q => ?s2⟩, fun h => absurd h (by decide)⟩, ⟨fun _ => ⟨rfl, rfl, (by simp), fun a w hF hB hP hE Q => ?s3⟩, fun h => absurd h (by decide)⟩, ⟨fun _ => ⟨rfl, rfl, (by simp), fun a w hF hB hP hE Q => ?s4⟩, fun h => absurd h (by decide)⟩, ⟨fun _ => ⟨rfl, rfl, (by simp), fun a w hF hB hP hE Q => ?s5⟩, fun h => absurd h (by decide)⟩, ⟨fun _ => ⟨rfl, rfl, (by simp), fun a w hF hB hP hE Q => ?s6⟩, fun h => absurd h (by decide)⟩, ⟨fun _ => ⟨rfl, rfl, (by simp), fun a w hF hB hP hE Q => ?s7⟩, fun h => absurd h (by decide)⟩, ⟨fun h => absurd h (by decide), fun _ => ⟨rfl, (by simp), fun a w hF hB hR => ?last⟩⟩, trivial⟩
    case s0 =>
      have f0 := hF.slot (k := 0) (by omega) q0
      exact oby (ob_value (v := .pointer (some ⟨B, 0, none⟩)) (w' := w) (by simp [execOp, Act.eval, go_sem, f0]) (Below.refl _ _) rfl)
    case s1 =>
      have h0 : T a 59 = .pointer (some ⟨B, 0, none⟩) := hE ⟨0, .data⟩ (by simp) rfl
      exact oby (ob_value (v := .pointer (some ⟨B, 0, none⟩)) (w' := w) (by simp [execOp, Act.eval, go_sem, h0]) (Below.refl _ _) rfl)
    case s2 =>
      have h1 : T a 60 = .pointer (some ⟨B, 0, none⟩) := hE ⟨1, .data⟩ (by simp) rfl
      exact oby (ob_value (v := .pointer (some ⟨B, 0, none⟩)) (w' := w) (by simp [execOp, Act.eval, go_sem, h1]) (Below.refl _ _) rfl)
    case s3 =>
      have h2 : T a 61 = .pointer (some ⟨B, 0, none⟩) := hE ⟨2, .data⟩ (by simp) rfl
      have x0 := cell_frp hB nB cB
      exact oby (ob_value (v := .map (some mt)) (w' := w) (by simp [execOp, Act.eval, go_sem, h2, x0]) (Below.refl _ _) rfl)
    case s4 =>
      have f6 := hF.slot (k := 6) (by omega) q6
      have x0 := cell_frp hB n6 c60
      have x1 := cell_frp hB n6 c61
      exact oby (ob_value (v := .agg #[.int .i64 (n : Nat), .int .i64 (g : Nat)]) (w' := w) (by simp [execOp, Act.eval, go_sem, f6, x0, x1]) (Below.refl _ _) rfl)
    case s5 =>
      have f7 := hF.slot (k := 7) (by omega) q7
      exact oby (ob_value (v := V) (w' := w) (by simp [execOp, Act.eval, go_sem, f7]) (Below.refl _ _) rfl)
    case s6 =>
      have f8 := hF.slot (k := 8) (by omega) q8
      exact oby (ob_value (v := Y) (w' := w) (by simp [execOp, Act.eval, go_sem, f8]) (Below.refl _ _) ⟨rfl, hY w hB⟩)
    case s7 =>
      have h5 : T a 64 = V := hE ⟨5, .data⟩ (by simp) rfl
      obtain ⟨h6, hla⟩ := hE ⟨6, .data⟩ (by simp) rfl
      refine oby_append rfl (.tmp 64) (.tmp 65) rfl (.int .u8 0) 1 (by kernel_rfl) (by kernel_rfl) infB rfl V bs.length (uv bs) (by rw [ev_T]; exact h5) (hP rfl) Y (uv ms) (by rw [ev_T]; exact h6) hla (uv_one ms) (by rw [uv_len]; unfold maxLen; omega) (by rw [uv_len]; omega) (fun k hk => hk) (fun V' w' h1 h2 => ⟨V', rfl, ?_, fun g hg => ?_⟩)
      · unfold OwnB
        rw [uv_app, List.length_append]
        rw [uv_len] at h1
        exact h1
      · rcases h2 g hg with h3 | h3
        · exact .inl h3
        · exact .inr (Nat.le_trans hB.size h3)
    case last =>
      obtain ⟨V', h7, hrow, hg⟩ := hR 7 (by decide)
      have m3 : T a 62 = .map (some mt) := hR 3 (by decide)
      have m4 : T a 63 = .agg #[.int .i64 (n : Nat), .int .i64 (g : Nat)] := hR 4 (by decide)
      have m7 : T a 66 = V' := h7
      obtain ⟨u2, hr, hQ⟩ := K a w V' hF.2.1 hB hrow hg
      refine sx_skip (w' := u2) ?_ hQ
      simp [execOp, Act.eval, go_sem, m3, m4, m7, hr]
end Go.Proofs.Ytobbcgendjakiaa
