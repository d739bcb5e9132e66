/- holds: the drawn region that appends to a list (typed by gen/rghr.py). -/
import Derived.Test.YtclcpblpmfijiaaG12
import Derived.Test.YtclcpblpmfijiaaG13
namespace Go.Proofs.Ytclcpblpmfijiaa
open Go.RowKit Go.Maps Rg

theorem lat_lit0 (w : World) (v : Value) (t : TypeId) (fr : Nat × Nat) : LAt (w.alloc (.cells #[v] t fr)) (.slice (some ⟨w.heap.size, 0, none⟩) 1 1) [v] := lat_lit w v t fr
def FrS (lo hi sz : Nat) (act a : Act) : Prop := a.tmps.size = sz ∧ a.defers = act.defers ∧ ∀ k, (k < lo ∨ hi ≤ k) → a.tmps[k]? = act.tmps[k]?
theorem FrS.put {lo hi sz : Nat} {act a : Act} (h : FrS lo hi sz act a) {k : Nat} (hk : lo ≤ k ∧ k < hi) (v : Value) : FrS lo hi sz act (a.put (some k) v) := by
  obtain ⟨h1, h2, h3⟩ := h
  refine ⟨by simp [Act.put, h1], by simp [Act.put, h2], fun j hj => ?_⟩
  simp only [Act.put]
  rw [Array.getElem?_setIfInBounds_ne (by omega)]
  exact h3 j hj
theorem FrS.slot {lo hi sz : Nat} {act a : Act} (h : FrS lo hi sz act a) {k : Nat} (hk : k < lo) {v : Value} (hv : T act k = v) : T a k = v := by unfold T at hv ⊢; rw [h.2.2 k (.inl hk)]; exact hv
/-- the frame behind: the slots from lo to hi are any -/
theorem FrS.laid {lo hi sz : Nat} {act a : Act} (h : FrS lo hi sz act a) (hs : act.tmps.size = sz) (o1 : lo ≤ hi) (o2 : hi ≤ sz) : ∃ q : List Value, q.length = hi - lo ∧ a = ⟨(act.tmps.toList.take lo ++ (q ++ act.tmps.toList.drop hi)).toArray, act.defers⟩ := by
  obtain ⟨e1, e2, e3⟩ := h
  have hlt : act.tmps.toList.length = sz := by simpa using hs
  have hla : a.tmps.toList.length = sz := by simpa using e1
  refine ⟨(a.tmps.toList.drop lo).take (hi - lo), by simp [e1]; omega, ?_⟩
  have : a.tmps.toList = act.tmps.toList.take lo ++ ((a.tmps.toList.drop lo).take (hi - lo) ++ act.tmps.toList.drop hi) := by
    apply List.ext_getElem?
    intro j
    have ej : (j < lo ∨ hi ≤ j) → a.tmps.toList[j]? = act.tmps.toList[j]? := fun x => by simpa using e3 j x
    by_cases c1 : j < lo
    · rw [List.getElem?_append_left (by rw [List.length_take]; omega), List.getElem?_take_of_lt c1]
      exact ej (.inl c1)
    · rw [List.getElem?_append_right (by rw [List.length_take]; omega), List.length_take, show min lo act.tmps.toList.length = lo by omega]
      have z1 : ((a.tmps.toList.drop lo).take (hi - lo)).length = hi - lo := by rw [List.length_take, List.length_drop]; omega
      by_cases c2 : j < hi
      · rw [List.getElem?_append_left (by omega), List.getElem?_take_of_lt (by omega), List.getElem?_drop, show lo + (j - lo) = j by omega]
      · rw [List.getElem?_append_right (by omega), z1, List.getElem?_drop, show hi + (j - lo - (hi - lo)) = j by omega]
        exact ej (.inr (by omega))
  obtain ⟨tm, df⟩ := a
  simp only at this e2
  rw [← this, e2]
theorem sx_skip {o : Oper} {a : Act} {w w' : World} {Q : Exit → Act → World → Prop} {K : Act → World → Prop} (h : (execOp a.eval o).run Try.prog w = .ok .skip w') (hR : K (a.put o.dst undef) w') : o.wp Try.prog a w K Q := by
  unfold Oper.wp
  rw [h]
  exact hR
def Xb (V : Value) (k : Nat) : Prop := V.ownBlock = some k
set_option linter.unusedVariables false in
def RHl (D g n cL i : Nat) (V : Value) (xs : List Int) (mk : Int) (w0 : World) : Nat → Value → World → Prop
  | 0, v, _ => v = .pointer (some ⟨D, 0, none⟩)
  | 1, v, _ => v = .pointer (some ⟨D, 0, none⟩)
  | 2, v, _ => v = .pointer (some ⟨D, 2, none⟩)
  | 3, v, _ => v = .slice (some ⟨g, 0, none⟩) n cL
  | 4, v, _ => v = .int .i64 (i : Nat)
  | 5, v, _ => v = .pointer (some ⟨D, 0, none⟩)
  | 6, v, _ => v = .pointer (some ⟨D, 0, none⟩)
  | 7, v, _ => v = .pointer (some ⟨D, 2, none⟩)
  | 8, v, _ => v = .slice (some ⟨g, 0, none⟩) n cL
  | 9, v, _ => v = .int .i64 (i : Nat)
  | 10, v, _ => v = .pointer (some ⟨g, i, none⟩)
  | 11, v, _ => v = V
  | 12, v, _ => v = .int .i64 (i : Nat)
  | 13, v, _ => v = .int .i64 mk
  | 14, v, w => ∃ b, v = .slice (some ⟨b, 0, none⟩) 1 1 ∧ w0.heap.size ≤ b ∧ LAt w v [.int .i64 mk]
  | 15, v, w => ∃ V', v = V' ∧ w.ownsRow 0 3 1 V' (xs.length + 1) (ints (xs ++ [mk])) ∧ ∀ b, V'.ownBlock = some b → V.ownBlock = some b ∨ w0.heap.size ≤ b
  | 16, v, _ => v = .pointer (some ⟨g, i, none⟩)
  | _, _, _ => True
set_option linter.unusedVariables false in
set_option maxRecDepth 100000 in
set_option maxHeartbeats 2000000 in
theorem regHl (D g n cL i : Nat) (V : Value) (xs : List Int) (mk : Int) {act : Act} {w0 : World} {Q : Exit → Act → World → Prop} {ops : Array Oper} (hops : ops = opsOf Try.f23 23) (hsz : act.tmps.size = 104) (q0 : T act 0 = .pointer (some ⟨D, 0, none⟩)) (q6 : T act 6 = .int .i64 (i : Nat)) (cD : w0.cell? ⟨D, 2, none⟩ = some (.slice (some ⟨g, 0, none⟩) n cL)) (cV : w0.cell? ⟨g, i, none⟩ = some V) (fz : w0.frozen? ⟨g, i, none⟩ = false) (hi0 : (i : Int) < (n : Int)) (hwr : IntKind.i64.wrap mk = mk) (hmk : -1000 - (i : Int) = mk) (nD : ¬ Xb V D) (ng : ¬ Xb V g) (ho : w0.ownsRow 0 3 1 V xs.length (ints xs)) (hl : xs.length ≤ 1000)
    (K : ∀ a' w' V', FrS 80 97 104 act a' → FrP (Xb V) w0 w' → w'.ownsRow 0 3 1 V' (xs.length + 1) (ints (xs ++ [mk])) → (∀ b, V'.ownBlock = some b → V.ownBlock = some b ∨ w0.heap.size ≤ b) → Q .normal a' (w'.setCell ⟨g, i, none⟩ V')) : (Code.region 23 ops true).wp Try.prog Q act w0 := by
  subst hops
  refine wp_region_lastx (by kernel_rfl) 17 15 (Xb V) (fun w => w.ownsRow 0 3 1 V xs.length (ints xs)) (fun i => false) ?pre ?preB (by kernel_rfl) (by decide) (fun i => 80 + i) (RHl D g n cL i V xs mk w0) (FrS 80 97 104 act) ?upB ?upX ?late ?f0 ?sz ?inj (by kernel_rfl) ?duty ⟨hsz, rfl, fun _ _ => rfl⟩
  case pre => exact ho
  case preB => intro w w' h hb; exact own_keep h (fun b hb2 => hb.block b (own_at h b hb2).2)
  case upB =>
    intro i v w w' h hb
    match i, h with
    | 0, h => exact h
    | 1, h => exact h
    | 2, h => exact h
    | 3, h => exact h
    | 4, h => exact h
    | 5, h => exact h
    | 6, h => exact h
    | 7, h => exact h
    | 8, h => exact h
    | 9, h => exact h
    | 10, h => exact h
    | 11, h => exact h
    | 12, h => exact h
    | 13, h => exact h
    | 14, ⟨b, h1, h2, h3⟩ => exact ⟨b, h1, h2, h3.later hb⟩
    | 15, ⟨V', h1, h2, h3⟩ => exact ⟨V', h1, own_keep h2 (fun b hb2 => hb.block b (own_at h2 b hb2).2), h3⟩
    | 16, h => exact h
    | _ + 17, _ => trivial
  case upX =>
    intro i v w w' hs hlt h hW hw
    match i, hs, hlt, h with
    | 0, hs, hlt, h => exact h
    | 1, hs, hlt, h => exact h
    | 2, hs, hlt, h => exact h
    | 3, hs, hlt, h => exact h
    | 4, hs, hlt, h => exact h
    | 5, hs, hlt, h => exact h
    | 6, hs, hlt, h => exact h
    | 7, hs, hlt, h => exact h
    | 8, hs, hlt, h => exact h
    | 9, hs, hlt, h => exact h
    | 10, hs, hlt, h => exact h
    | 11, hs, hlt, h => exact h
    | 12, hs, hlt, h => exact h
    | 13, hs, hlt, h => exact h
    | 14, hs, hlt, ⟨b, h1, h2, h3⟩ => exact ⟨b, h1, h2, by rw [h1] at h3 ⊢; exact lat_frp hw (fun x => by have := (own_at ho b x).2; omega) h3⟩
    | 15, hs, hlt, _ => exact absurd rfl hs
    | 16, hs, hlt, h => exact h
    | _ + 17, _, _, _ => trivial
  case late => exact late_ok (by kernel_rfl)
  case f0 => intro a i v hi h; exact h.put (by omega) v
  case sz => intro a i hi h; rw [h.1]; show 80 + i < 104; omega
  case inj => intro i j _ _ h; have h : 80 + i = 80 + j := h; omega
  case duty =>
    refine ⟨⟨fun _ => ⟨rfl, rfl, (by simp), fun a w hF hB hP hE Q => ?s0⟩, fun h => absurd h (by decide)⟩, ⟨fun _ => ⟨rfl, rfl, (by simp), fun a w hF hB hP hE Q => ?s1⟩, fun h => absurd h (by decide)⟩, ⟨fun _ => ⟨rfl, rfl, (by simp), fun a w hF hB hP hE Q => ?s2⟩, fun h => absurd h (by decide)⟩, ⟨fun _ => ⟨rfl, rfl, (by simp), fun a w hF hB hP hE Q => ?s3⟩, fun h => absurd h (by decide)⟩, ⟨fun _ => ⟨rfl, rfl, (by simp), fun a w hF hB hP hE Q => ?s4⟩, fun h => absurd h (by decide)⟩, ⟨fun _ => ⟨rfl, rfl, (by simp), fun a w hF hB hP hE Q => ?s5⟩, fun h => absurd h (by decide)⟩, ⟨fun _ => ⟨rfl, rfl, (by simp), fun a w hF hB hP hE Q => ?s6⟩, fun h => absurd h (by decide)⟩, ⟨fun _ => ⟨rfl, rfl, (by simp), fun a w hF hB hP hE Q => ?s7⟩, fun h => absurd h (by decide)⟩, ⟨fun _ => ⟨rfl, rfl, (by simp), fun a w hF hB hP hE Q => ?s8⟩, fun h => absurd h (by decide)⟩, ⟨fun _ => ⟨rfl, rfl, (by simp), fun a w hF hB hP hE Q => ?s9⟩, fun h => absurd h (by decide)⟩, ⟨fun _ => ⟨rfl, rfl, (by simp), fun a w hF hB hP hE Q => ?s10⟩, fun h => absurd h (by decide)⟩, ⟨fun _ => ⟨rfl, rfl, (by simp), fun a w hF hB hP hE Q => ?s11⟩, fun h => absurd h (by decide)⟩, ⟨fun _ => ⟨rfl, rfl, (by simp), fun a w hF hB hP hE Q => ?s12⟩, fun h => absurd h (by decide)⟩, ⟨fun _ => ⟨rfl, rfl, (by simp), fun a w hF hB hP hE Q => ?s13⟩, fun h => absurd h (by decide)⟩, ⟨fun _ => ⟨rfl, rfl, (by simp), fun a w hF hB hP hE Q => ?s14⟩, fun h => absurd h (by decide)⟩, ⟨fun _ => ⟨rfl, rfl, (by simp), fun a w hF hB hP hE Q => ?s15⟩, fun h => absurd h (by decide)⟩, ⟨fun _ => ⟨rfl, rfl, (by simp), fun a w hF hB hP hE Q => ?s16⟩, fun h => absurd h (by decide)⟩, ⟨fun h => absurd h (by decide), fun _ => ⟨rfl, (by simp), fun a w hF hB hR => ?last⟩⟩, trivial⟩
    case s0 =>
      have f0 := hF.slot (k := 0) (by omega) q0
      exact oby (ob_value (v := .pointer (some ⟨D, 0, none⟩)) (w' := w) (by simp [execOp, Act.eval, go_sem, f0]) (Below.refl _ _) rfl)
    case s1 =>
      have h0 : T a 80 = .pointer (some ⟨D, 0, none⟩) := hE ⟨0, .data⟩ (by simp) rfl
      exact oby (ob_value (v := .pointer (some ⟨D, 0, none⟩)) (w' := w) (by simp [execOp, Act.eval, go_sem, h0]) (Below.refl _ _) rfl)
    case s2 =>
      have h1 : T a 81 = .pointer (some ⟨D, 0, none⟩) := hE ⟨1, .data⟩ (by simp) rfl
      exact oby (ob_value (v := .pointer (some ⟨D, 2, none⟩)) (w' := w) (by simp [execOp, Act.eval, go_sem, h1]) (Below.refl _ _) rfl)
    case s3 =>
      have h2 : T a 82 = .pointer (some ⟨D, 2, none⟩) := hE ⟨2, .data⟩ (by simp) rfl
      have x0 := cell_frp hB nD cD
      exact oby (ob_value (v := .slice (some ⟨g, 0, none⟩) n cL) (w' := w) (by simp [execOp, Act.eval, go_sem, h2, x0]) (Below.refl _ _) rfl)
    case s4 =>
      have f6 := hF.slot (k := 6) (by omega) q6
      exact oby (ob_value (v := .int .i64 (i : Nat)) (w' := w) (by simp [execOp, Act.eval, go_sem, f6]) (Below.refl _ _) rfl)
    case s5 =>
      have f0 := hF.slot (k := 0) (by omega) q0
      exact oby (ob_value (v := .pointer (some ⟨D, 0, none⟩)) (w' := w) (by simp [execOp, Act.eval, go_sem, f0]) (Below.refl _ _) rfl)
    case s6 =>
      have h5 : T a 85 = .pointer (some ⟨D, 0, none⟩) := hE ⟨5, .data⟩ (by simp) rfl
      exact oby (ob_value (v := .pointer (some ⟨D, 0, none⟩)) (w' := w) (by simp [execOp, Act.eval, go_sem, h5]) (Below.refl _ _) rfl)
    case s7 =>
      have h6 : T a 86 = .pointer (some ⟨D, 0, none⟩) := hE ⟨6, .data⟩ (by simp) rfl
      exact oby (ob_value (v := .pointer (some ⟨D, 2, none⟩)) (w' := w) (by simp [execOp, Act.eval, go_sem, h6]) (Below.refl _ _) rfl)
    case s8 =>
      have h7 : T a 87 = .pointer (some ⟨D, 2, none⟩) := hE ⟨7, .data⟩ (by simp) rfl
      have x0 := cell_frp hB nD cD
      exact oby (ob_value (v := .slice (some ⟨g, 0, none⟩) n cL) (w' := w) (by simp [execOp, Act.eval, go_sem, h7, x0]) (Below.refl _ _) rfl)
    case s9 =>
      have f6 := hF.slot (k := 6) (by omega) q6
      exact oby (ob_value (v := .int .i64 (i : Nat)) (w' := w) (by simp [execOp, Act.eval, go_sem, f6]) (Below.refl _ _) rfl)
    case s10 =>
      have h8 : T a 88 = .slice (some ⟨g, 0, none⟩) n cL := hE ⟨8, .data⟩ (by simp) rfl
      have h9 : T a 89 = .int .i64 (i : Nat) := hE ⟨9, .data⟩ (by simp) rfl
      exact oby (ob_value (v := .pointer (some ⟨g, i, none⟩)) (w' := w) (by simp [execOp, Act.eval, go_sem, h8, h9, hi0]) (Below.refl _ _) rfl)
    case s11 =>
      have h10 : T a 90 = .pointer (some ⟨g, i, none⟩) := hE ⟨10, .data⟩ (by simp) rfl
      have x0 := cell_frp hB ng cV
      exact oby (ob_value (v := V) (w' := w) (by simp [execOp, Act.eval, go_sem, h10, x0]) (Below.refl _ _) rfl)
    case s12 =>
      have f6 := hF.slot (k := 6) (by omega) q6
      exact oby (ob_value (v := .int .i64 (i : Nat)) (w' := w) (by simp [execOp, Act.eval, go_sem, f6]) (Below.refl _ _) rfl)
    case s13 =>
      have h12 : T a 92 = .int .i64 (i : Nat) := hE ⟨12, .data⟩ (by simp) rfl
      exact oby (ob_value (v := .int .i64 mk) (w' := w) (by simp [execOp, Act.eval, go_sem, h12, hmk, hwr]) (Below.refl _ _) rfl)
    case s14 =>
      have h13 : T a 93 = .int .i64 mk := hE ⟨13, .data⟩ (by simp) rfl
      refine oby (ob_value (v := .slice (some ⟨w.heap.size, 0, none⟩) 1 1) (w' := w.alloc (.cells #[.int .i64 mk] 3)) (by simp [execOp, Act.eval, go_sem, h13]) ((Below.refl _ _).alloc (Nat.le_refl _) _) ⟨w.heap.size, rfl, hB.size, lat_lit w _ _ _⟩)
    case s15 =>
      have h11 : T a 91 = V := hE ⟨11, .data⟩ (by simp) rfl
      obtain ⟨b14, hv14, hb14, hla⟩ := hE ⟨14, .data⟩ (by simp) rfl
      rw [show T a (80 + 14) = T a 94 from rfl] at hv14 hla
      rw [hv14] at hla
      refine oby_append rfl (.tmp 91) (.tmp 94) rfl (.int .i64 0) 8 (by kernel_rfl) (by kernel_rfl) infI rfl V xs.length (ints xs) (by rw [ev_T]; exact h11) (hP rfl) _ [.int .i64 mk] (by rw [ev_T]; exact hv14) hla (fun u hu => by simp at hu; subst hu; rfl) (by simp only [List.length_singleton]; unfold maxLen; omega) (by simp only [List.length_singleton]; omega) (fun k hk => hk) (fun V' w' h1 h2 => ⟨V', rfl, ?_, fun g hg => ?_⟩)
      · rw [ints_snoc]
        exact h1
      · rcases h2 g hg with h3 | h3
        · exact .inl h3
        · exact .inr (Nat.le_trans hB.size h3)
    case s16 =>
      have h3 : T a 83 = .slice (some ⟨g, 0, none⟩) n cL := hE ⟨3, .data⟩ (by simp) rfl
      have h4 : T a 84 = .int .i64 (i : Nat) := hE ⟨4, .data⟩ (by simp) rfl
      exact oby (ob_value (v := .pointer (some ⟨g, i, none⟩)) (w' := w) (by simp [execOp, Act.eval, go_sem, h3, h4, hi0]) (Below.refl _ _) rfl)
    case last =>
      obtain ⟨V', h15, hrow, hg⟩ := hR 15 (by decide)
      have m16 : T a 96 = .pointer (some ⟨g, i, none⟩) := hR 16 (by decide)
      have m15 : T a 95 = V' := h15
      have x0 := cell_frp hB ng cV
      have x1 : w.frozen? ⟨g, i, none⟩ = false := by
        have e := hB.block g (World.block_lt_of_cell? w0 _ cV) ng
        unfold World.frozen? at fz ⊢
        rw [e]
        exact fz
      obtain ⟨v1, v2, hvf⟩ := own_form hrow
      rw [hvf] at m15
      refine sx_skip (w' := w.setCell ⟨g, i, none⟩ V') ?_ (K a w V' hF hB hrow hg)
      rw [hvf]
      simp [execOp, Act.eval, go_sem, m15, m16, x0, x1]
end Go.Proofs.Ytclcpblpmfijiaa
