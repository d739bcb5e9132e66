/- simfs: twin; Copy's closure. -/
import Derived.Test.YtjlfhaehdllmcaaG26
import Derived.Deep.RegionWith
namespace Go.Proofs.Ytjlfhaehdllmcaa
open Go.RowKit Go.Maps Sf
attribute [local go_sem ↓] Go.wp_at_zero Go.wp_at_succ

def TwinPost (n : Nat) (f : Ino) (u : World) (e : Ending) (u' : World) : Prop := ∃ A V, e = .returned (.pointer (some ⟨A, 0, none⟩)) ∧ InoAt u' A n f V ∧ u.heap.size ≤ A ∧ (∀ b, V.ownBlock = some b → u.heap.size ≤ b) ∧ Below u.heap.size u u'
set_option maxRecDepth 8000 in
set_option maxHeartbeats 1000000 in
theorem twin_any {u : World} {a n : Nat} {f : Ino} {V : Value} (h : InoAt u a n f V) (hl : f.bs.length ≤ 1048576) :
    Calls Try.prog 30 #[.pointer (some ⟨a, 0, none⟩)] u (TwinPost n f u) := by
  have HI : Hid (InoAt u a n f V) := h
  obtain ⟨c0, c1, c2, c3, c4⟩ := h.cells
  obtain ⟨va, vc, ev, hv1, hv2⟩ := h.v.form
  obtain ⟨A, hA⟩ : ∃ A, u.heap.size = A := ⟨_, rfl⟩
  obtain ⟨u1, hu1⟩ : ∃ u1, u.alloc (.cells (inoC n f V) 65) = u1 := ⟨_, rfl⟩
  have k1 : Below u.heap.size u u1 := by rw [← hu1]; exact (Below.refl _ _).alloc (Nat.le_refl _) _
  have iA : u1.heap[A]? = some (.cells (inoC n f V) 65 (0, 0)) := by rw [← hu1, ← hA]; exact heap_alloc_new u _
  have hi1 : InoAt u1 a n f V := h.keep (k1.block a h.lt) (fun b _ hl => k1.block b hl)
  have HC := bclone_any hi1.v hl
  have HC : Hid (Calls Try.prog 45 #[V] u1 _) := HC
  obtain ⟨d0, d1, d2, d3, d4⟩ := hi1.cells
  have HK1 : Hid (Below u.heap.size u u1) := k1
  have HIA : Hid (u1.heap[A]? = some (.cells (inoC n f V) 65 (0, 0)) ∧ u.heap.size = A) := ⟨iA, hA⟩
  have HW : Hid (u.alloc (.cells (inoC n f V) 65) = u1) := hu1
  unfold inoC at HW
  subst ev
  clear h hA hu1 k1 iA hi1
  go_enter Try.func30, Try.ntmps30
  go_upto_region 2 with fail
  rw [HW.out, HIA.out.2]
  clear HW c0 c1 c2 c3 c4
  go_wp2_with fail
  refine HC.out.mono ?_
  rintro e u2 ⟨V', rfl, hV, hb⟩
  have hA2 : u2.heap[A]? = u1.heap[A]? := hb.block A (Array.getElem?_eq_some_iff.1 HIA.out.1).1
  have hbA : u2.heap[A]? = some (.cells (inoC n f (.slice va f.bs.length vc)) 65 (0, 0)) := hA2.trans HIA.out.1
  have hV0 : OwnB u2 V' f.bs := own_low hV (Nat.zero_le _)
  have HE : Hid (TwinPost n f u (.returned (.pointer (some ⟨A, 0, none⟩))) (u2.setCell ⟨A, 3, none⟩ V')) := by
    refine ⟨A, V', rfl, ⟨by rw [heap_set hbA]; simp [inoC], hV0.keep fun k hk _ => Below.heap_setCell u2 ⟨A, 3, none⟩ V' k (fun e => ?_)⟩, by have := HIA.out.2; omega, fun b hbk => ?_, below_set (below_step HK1.out hb) (by have := HIA.out.2; omega) 3 V'⟩
    · have e : k = A := e
      subst e
      exact absurd (TyB.ne (hV0.ty hk).1 ⟨_, _, hbA⟩) (by decide)
    · rcases hV.2 with ⟨e2, _⟩ | ⟨g, cap, cur, e2, hbg, _⟩
      · rw [e2] at hbk; cases hbk
      · rw [e2] at hbk
        have : g = b := by injection hbk
        have := HK1.out.size
        omega
  obtain ⟨_, _, _, e3, _⟩ := inoB_cells hbA
  have q3 := inoB_frozen hbA 3
  obtain ⟨v1, v2, rfl⟩ := own_form hV
  clear HC hV hb hA2 hbA hV0 d0 d1 d2 d3 d4
  go_wp2
  go_ret
  exact HE.out
/-! ### Copy's closure: one drawn region -/
def FrC (act a : Act) : Prop := a.tmps.size = 13 ∧ a.defers = act.defers ∧ ∀ k, k < 3 → a.tmps[k]? = act.tmps[k]?
theorem FrC.put {act a : Act} (h : FrC act a) {k : Nat} (hd : 3 ≤ k) (v : Value) : FrC act (a.put (some k) v) := by
  obtain ⟨h1, h2, h3⟩ := h
  refine ⟨by simp [Act.put, h1], by simp [Act.put, h2], fun j hj => ?_⟩
  simp only [Act.put]
  rw [Array.getElem?_setIfInBounds_ne (by omega)]
  exact h3 j hj
theorem FrC.slot {act a : Act} (h : FrC act a) {k : Nat} (hk : k < 3) : T a k = Go.Proofs.Ytjlfhaehdllmcaa.T act k := by unfold Go.Proofs.Ytjlfhaehdllmcaa.T; rw [h.2.2 k hk]
def RC1 (w0 : World) (B2 mi a n : Nat) (f : Ino) : Nat → Value → World → Prop
  | 0, v, _ => v = .pointer (some ⟨B2, 0, none⟩)
  | 1, v, _ => v = .pointer (some ⟨B2, 0, none⟩)
  | 2, v, _ => v = .pointer (some ⟨B2, 1, none⟩)
  | 3, v, _ => v = .map (some mi)
  | 4, v, _ => v = .pointer (some ⟨a, 0, none⟩)
  | 5, v, _ => v = .pointer (some ⟨a, 0, none⟩)
  | 6, v, _ => v = .pointer (some ⟨a, 0, none⟩)
  | 7, v, _ => v = .int .i64 (n : Nat)
  | 8, v, _ => v = .pointer (some ⟨a, 0, none⟩)
  | 9, v, u => ∃ A V, v = .pointer (some ⟨A, 0, none⟩) ∧ InoAt u A n f V ∧ w0.heap.size ≤ A ∧ ∀ b, V.ownBlock = some b → w0.heap.size ≤ b
  | _, _, _ => True
section
variable {o : Oper} {a : Act} {w w' : World} {r : Value → World → Prop} {Q : Exit → Act → World → Prop}
attribute [local go_sem] Oper.semAt_some
theorem sc_load {t p : Nat} {ad : Addr} {v : Value} (ht : t = 3 ∨ t = 24 ∨ t = 55) (ho : o.op = .load t (.tmp p)) (hx : T a p = .pointer (some ad)) (hc : w.cell? ad = some v) (hr : r v w) : o.wp Try.prog a w (Leaves r o a w) Q := by
  obtain ⟨dst, op, type, pos, after, guard⟩ := o
  simp only at ho
  subst ho
  refine ob_value (v := v) (w' := w) ?_ (Below.refl _ _) hr
  rcases ht with rfl | rfl | rfl <;> simp [execOp, Act.eval, hx, go_sem, hc]
theorem sc_nil {p : Nat} {ad : Addr} (ho : o.op = .nilCheck (.tmp p)) (hx : T a p = .pointer (some ad)) (hr : r (.pointer (some ad)) w) : o.wp Try.prog a w (Leaves r o a w) Q := by
  obtain ⟨dst, op, type, pos, after, guard⟩ := o
  simp only at ho
  subst ho
  refine ob_value (v := .pointer (some ad)) (w' := w) ?_ (Below.refl _ _) hr
  simp [execOp, Act.eval, hx, go_sem]
set_option maxRecDepth 20000 in
theorem sc_dfield {p B : Nat} (ho : o.op = .fieldAddr 58 (.tmp p) 1) (hx : T a p = .pointer (some ⟨B, 0, none⟩)) (hr : r (.pointer (some ⟨B, 1, none⟩)) w) : o.wp Try.prog a w (Leaves r o a w) Q := by
  obtain ⟨dst, op, type, pos, after, guard⟩ := o
  simp only at ho
  subst ho
  refine ob_value (v := .pointer (some ⟨B, 1, none⟩)) (w' := w) ?_ (Below.refl _ _) hr
  simp [execOp, Act.eval, hx, go_sem]
set_option maxRecDepth 20000 in
theorem sc_ifield {p B : Nat} (ho : o.op = .fieldAddr 65 (.tmp p) 0) (hx : T a p = .pointer (some ⟨B, 0, none⟩)) (hr : r (.pointer (some ⟨B, 0, none⟩)) w) : o.wp Try.prog a w (Leaves r o a w) Q := by
  obtain ⟨dst, op, type, pos, after, guard⟩ := o
  simp only at ho
  subst ho
  refine ob_value (v := .pointer (some ⟨B, 0, none⟩)) (w' := w) ?_ (Below.refl _ _) hr
  simp [execOp, Act.eval, hx, go_sem]
theorem sc_call {p f : Nat} {ts : Array TypeId} (ho : o.op = .call { callee := .value (.func f), args := #[.tmp p], argTypes := ts }) (hf : ∀ (args : Array Value) (w : World), (callFunc f args).run Try.prog w = .ok (.enter f args) w) {v1 : Value} (h1 : T a p = v1) (hc : Calls Try.prog f #[v1] w fun e w' => ∃ v, e = .returned v ∧ Below w.heap.size w w' ∧ r v w') : o.wp Try.prog a w (Leaves r o a w) Q := by
  obtain ⟨dst, op, type, pos, after, guard⟩ := o
  simp only at ho
  subst ho
  refine ob_enter (args := #[v1]) ?_ hc
  simp [Act.eval, h1, go_sem]
  exact hf _ _
end
theorem sc_skip {o : Oper} {a : Act} {w w' : World} {Q : Exit → Act → World → Prop} {K : Act → World → Prop} (h : (execOp a.eval o).run Try.prog w = .ok .skip w') (hR : K (a.put o.dst undef) w') : o.wp Try.prog a w K Q := by
  unfold Oper.wp
  rw [h]
  exact hR
set_option maxRecDepth 100000 in
set_option maxHeartbeats 1000000 in
theorem regC1 {act : Act} {W : World} {B2 Bo a n mi : Nat} {f : Ino} {Q : Exit → Act → World → Prop} (hT0 : T act 0 = .pointer (some ⟨a, 0, none⟩)) (hT1 : T act 1 = .pointer (some ⟨Bo, 0, none⟩)) (hsz : act.tmps.size = 13)
    (b0 : W.cell? ⟨Bo, 0, none⟩ = some (.pointer (some ⟨B2, 0, none⟩))) (c1 : W.cell? ⟨B2, 1, none⟩ = some (.map (some mi))) (i0 : W.cell? ⟨a, 0, none⟩ = some (.int .i64 (n : Nat)))
    (HT : ∀ v, Below W.heap.size W v → Calls Try.prog 30 #[.pointer (some ⟨a, 0, none⟩)] v (TwinPost n f v))
    (K : ∀ a' u A V, FrC act a' → Below W.heap.size W u → InoAt u A n f V → W.heap.size ≤ A → (∀ b, V.ownBlock = some b → W.heap.size ≤ b) → ∃ u2, (Instr.mapUpdate 55 (.map (some mi)) (.int .i64 (n : Nat)) (.pointer (some ⟨A, 0, none⟩))).run Try.prog u = .ok () u2 ∧ Q .normal a' u2) : (Code.region 0 (opsOf Try.f29 0) true).wp Try.prog Q act W := by
  refine wp_region_last (by kernel_rfl) 10 (by kernel_rfl) (fun i => 3 + i) (RC1 W B2 mi a n f) (FrC act) ?up ?f0 ?sz ?inj (by kernel_rfl) ?duty ⟨hsz, rfl, fun _ _ => rfl⟩
  case up =>
    intro i v w w' h hb
    match i, h with
    | 0, h => exact h
    | 1, h => exact h
    | 2, h => exact h
    | 3, h => exact h
    | 4, h => exact h
    | 5, h => exact h
    | 6, h => exact h
    | 7, h => exact h
    | 8, h => exact h
    | 9, ⟨A, V, h1, h2, h3⟩ => exact ⟨A, V, h1, h2.keep (hb.block A h2.lt) (fun b _ hl => hb.block b hl), h3⟩
    | _ + 10, _ => trivial
  case f0 =>
    intro a i v hi h
    exact h.put (by omega) v
  case sz =>
    intro a i hi h
    rw [h.1]
    show 3 + i < 13
    omega
  case inj =>
    intro i j _ _ h
    exact Nat.add_left_cancel h
  case duty =>
    refine ⟨⟨fun _ => ⟨rfl, duty_free rfl (by simp) rfl fun a u hF hB hE Q => ?s0⟩, fun h => absurd h (by decide)⟩, ⟨fun _ => ⟨rfl, duty_free rfl (by simp) rfl fun a u hF hB hE Q => ?s1⟩, fun h => absurd h (by decide)⟩, ⟨fun _ => ⟨rfl, duty_free rfl (by simp) rfl fun a u hF hB hE Q => ?s2⟩, fun h => absurd h (by decide)⟩, ⟨fun _ => ⟨rfl, duty_free rfl (by simp) rfl fun a u hF hB hE Q => ?s3⟩, fun h => absurd h (by decide)⟩, ⟨fun _ => ⟨rfl, duty_free rfl (by simp) rfl fun a u hF hB hE Q => ?s4⟩, fun h => absurd h (by decide)⟩, ⟨fun _ => ⟨rfl, duty_free rfl (by simp) rfl fun a u hF hB hE Q => ?s5⟩, fun h => absurd h (by decide)⟩, ⟨fun _ => ⟨rfl, duty_free rfl (by simp) rfl fun a u hF hB hE Q => ?s6⟩, fun h => absurd h (by decide)⟩, ⟨fun _ => ⟨rfl, duty_free rfl (by simp) rfl fun a u hF hB hE Q => ?s7⟩, fun h => absurd h (by decide)⟩, ⟨fun _ => ⟨rfl, duty_free rfl (by simp) rfl fun a u hF hB hE Q => ?s8⟩, fun h => absurd h (by decide)⟩, ⟨fun _ => ⟨rfl, duty_free rfl (by simp) rfl fun a u hF hB hE Q => ?s9⟩, fun h => absurd h (by decide)⟩, ⟨fun h => absurd h (by decide), fun _ => ⟨rfl, by simp, fun a u hF hB hR => ?last⟩⟩, trivial⟩
    case s0 => exact sc_load (.inr (.inl rfl)) rfl (by rw [hF.slot (by omega)]; exact hT1) ((hB.cell (p := ⟨Bo, 0, none⟩) (lt_of_cell b0)).trans b0) rfl
    case s1 => exact sc_nil rfl (hE ⟨0, .data⟩ (by simp) rfl) rfl
    case s2 => exact sc_dfield rfl (hE ⟨1, .data⟩ (by simp) rfl) rfl
    case s3 => exact sc_load (.inr (.inr rfl)) rfl (hE ⟨2, .data⟩ (by simp) rfl) ((hB.cell (p := ⟨B2, 1, none⟩) (lt_of_cell c1)).trans c1) rfl
    case s4 => exact ob_move rfl (by rw [hF.slot (by omega)]; exact hT0) rfl
    case s5 => exact sc_nil rfl (hE ⟨4, .data⟩ (by simp) rfl) rfl
    case s6 => exact sc_ifield rfl (hE ⟨5, .data⟩ (by simp) rfl) rfl
    case s7 => exact sc_load (.inl rfl) rfl (hE ⟨6, .data⟩ (by simp) rfl) ((hB.cell (p := ⟨_, 0, none⟩) (lt_of_cell i0)).trans i0) rfl
    case s8 => exact ob_move rfl (by rw [hF.slot (by omega)]; exact hT0) rfl
    case s9 =>
      refine sc_call rfl (fun args w => by simp [go_sem]) (hE ⟨8, .data⟩ (by simp) rfl) ((HT u hB).mono ?_)
      rintro e w' ⟨A, V, rfl, h1, h2, h3, h4⟩
      have := hB.size
      exact ⟨_, rfl, h4, A, V, rfl, h1, by omega, fun b hb => by have := h3 b hb; omega⟩
    case last =>
      obtain ⟨A, V, h1, h2, h3, h4⟩ := hR 9 (by decide)
      have m3 : T a 6 = .map (some mi) := hR 3 (by decide)
      have m7 : T a 10 = .int .i64 (n : Nat) := hR 7 (by decide)
      have m9 : T a 12 = .pointer (some ⟨A, 0, none⟩) := h1
      have hF2 : FrC act (a.put none undef) := ⟨hF.1, hF.2.1, hF.2.2⟩
      obtain ⟨u2, hrun, hQ⟩ := K _ u A V hF2 hB h2 h3 h4
      refine sc_skip (w' := u2) ?_ hQ
      unfold T at m3 m7 m9
      simp [execOp, Act.eval, m3, m7, m9, go_sem, hrun]
set_option maxRecDepth 8000 in
set_option maxHeartbeats 1000000 in
theorem copy1_any {u : World} {a n B2 Bo : Nat} {f : Ino} {V : Value} {P2 : Nat → Prop} {d2 : Dk} {L2 : Lay} (h : InoAt u a n f V) (hl : f.bs.length ≤ 1048576) (hn : n ≤ 1000000) (ho : BoxAt u Bo (.pointer (some ⟨B2, 0, none⟩)) 24) (h2 : DkAt P2 u B2 d2 L2) (hno : d2.ino n = none) (hci : L2.ci ≤ 2000000) :
    Calls Try.prog 29 #[.pointer (some ⟨a, 0, none⟩), .pointer (some ⟨Bo, 0, none⟩)] u fun e u' => e = .returned (.tuple #[]) ∧ ∃ A V', DkAt (More P2 u u') u' B2 (Sf.putI d2 n (some f)) { L2 with ci := L2.ci + 1, ai := fun m => if m = n then A else L2.ai m, vi := fun m => if m = n then V' else L2.vi m } ∧ FrP (fun k => k = L2.mi) u u' := by
  have HT : Hid (∀ v, Below u.heap.size u v → Calls Try.prog 30 #[.pointer (some ⟨a, 0, none⟩)] v (TwinPost n f v)) := fun v hv => twin_any (h.keep (hv.block a h.lt) (fun b _ hl => hv.block b hl)) hl
  obtain ⟨b0, b1⟩ := ho.cell
  obtain ⟨c0, c1, c2⟩ := h2.cells
  obtain ⟨i0, i1, i2, i3, i4⟩ := h.cells
  have HK : Hid (∀ v A V', Below u.heap.size u v → InoAt v A n f V' → u.heap.size ≤ A → (∀ b, V'.ownBlock = some b → u.heap.size ≤ b) → ∃ v2, (Instr.mapUpdate 55 (.map (some L2.mi)) (.int .i64 (n : Nat)) (.pointer (some ⟨A, 0, none⟩))).run Try.prog v = .ok () v2 ∧ DkAt (More P2 u v2) v2 B2 (Sf.putI d2 n (some f)) { L2 with ci := L2.ci + 1, ai := fun m => if m = n then A else L2.ai m, vi := fun m => if m = n then V' else L2.vi m } ∧ FrP (fun k => k = L2.mi) u v2) := fun v A V' hv hi hA hV => by
    have h2v := h2.later hv
    obtain ⟨v2, hrun, hm, hg, hs⟩ := h2v.im.put lawI (mt := 55) (e := 59) (by kernel_rfl) (by unfold maxLen; omega) (k := ((n : Nat) : Int)) (by unfold goodI; omega) keyI kvI_inj (.pointer (some ⟨A, 0, none⟩))
    have hmA : ∀ b, u.heap.size ≤ b → b ≠ L2.mi := fun b hb e => by have := h2.low _ h2.pB.2.1; omega
    have hk : ∀ b, u.heap.size ≤ b → b < v.heap.size → v2.heap[b]? = v.heap[b]? := fun b hb hl => hg.block b hl (fun e => hmA b hb (by cases e; rfl))
    have hi2 : InoAt v2 A n f V' := hi.keep (hk A hA hi.lt) (fun b hb hl => hk b (hV b hb) hl)
    have hfr : FrP (fun k => k = L2.mi) u v2 := (FrP.of_below (fun k => k = L2.mi) hv).grown hg (fun k _ e => by cases e; rfl)
    exact ⟨v2, hrun, h2.addI hno hi2 hA hV hm hfr, hfr⟩
  clear h hl hn ho h2 hno hci b1 c0 c2 i1 i2 i3 i4
  go_enter Try.func29, Try.ntmps29
  go_wp2_with fail
  refine regC1 (B2 := B2) (Bo := Bo) (a := a) (n := n) (mi := L2.mi) (f := f) rfl rfl rfl b0 c1 i0 HT.out ?_
  intro a' v A V' hF hb hi hA hV
  obtain ⟨v2, hrun, hd, hfr⟩ := HK.out v A V' hb hi hA hV
  refine ⟨v2, hrun, ?_⟩
  have hdf : a'.defers = [] := hF.2.1
  refine bodyPost_end (results_none rfl _ _ _) hdf ?_
  exact ⟨rfl, A, V', hd, hfr⟩
end Go.Proofs.Ytjlfhaehdllmcaa
