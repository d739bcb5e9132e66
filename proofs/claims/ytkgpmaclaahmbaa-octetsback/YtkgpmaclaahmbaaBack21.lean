/- The last region of OctetsBack: the rows joined, the bytes, the count. -/
import Derived.Test.YtkgpmaclaahmbaaBack14
namespace Go.Proofs.Ytkgpmaclaahmbaa
open Go Go.RowKit Go.Shelf

/-- what the region reads -/
structure Bt (w : World) (s : Oct.S) (X : Nat) (W : World) (V U : Value) (u : World) : Prop where
  ko : KeepsOthers W u
  bel : Below w.heap.size w u
  set : SB u w.heap.size s
  rows : Boxed u X 26 V
  row : OwnsS u (X + 5) V (allSets (refRows s 256))
  bytes : Boxed u (X + 1) 27 U
  byte : OwnsN u (X + 5) U (ints (allBytes (refRows s 256)))
  num : Boxed u (X + 1 + 1 + 1) 3 (.int .i64 (cnt s : Nat))
  res : ∃ b, Boxed u (w.heap.size + 1) 4 (.bool b)
  ord : w.heap.size + 1 < X
def FrB (act a : Act) : Prop := a.tmps.size = 76 ∧ a.defers = act.defers ∧ ∀ k, k < 60 → a.tmps[k]? = act.tmps[k]?
theorem fr_T {act a : Act} (h : FrB act a) {k : Nat} (hk : k < 60) : T a k = T act k := by unfold T; rw [h.2.2 k hk]
section
variable {w : World} {s : Oct.S} {X : Nat} {W : World} {V U : Value} {u u' : World}
theorem Bt.later (h : Bt w s X W V U u) (hb : Below u.heap.size u u') : Bt w s X W V U u' :=
  ⟨h.ko.trans (keeps_below hb), below_trans h.bel hb h.bel.size, h.set.later hb, (hb.block _ h.rows.lt).trans h.rows, h.row.later hb, (hb.block _ h.bytes.lt).trans h.bytes, h.byte.later hb, (hb.block _ h.num.lt).trans h.num, by obtain ⟨b, hr⟩ := h.res; exact ⟨b, (hb.block _ hr.lt).trans hr⟩, h.ord⟩
theorem Bt.stored (h : Bt w s X W V U u) (b : Bool) : Bt w s X W V U (u.setCell ⟨w.heap.size + 1, 0, none⟩ (.bool b)) ∧ Boxed (u.setCell ⟨w.heap.size + 1, 0, none⟩ (.bool b)) (w.heap.size + 1) 4 (.bool b) := by
  have ho := h.ord
  obtain ⟨b0, hr⟩ := h.res
  exact ⟨⟨h.ko.trans (KeepsOthers.setCell _ _ _), h.bel.setCell (p := ⟨w.heap.size + 1, 0, none⟩) (by simp) _, h.set.other (by omega) _ _, h.rows.other (by omega) _, h.row.move (fun g _ _ hb _ => heap_other _ _ _ _ (by omega)), h.bytes.other (by omega) _, h.byte.move (fun g _ _ hb _ => heap_other _ _ _ _ (by omega)), h.num.other (by omega) _, ⟨b, hr.set _⟩, ho⟩, hr.set _⟩
theorem enters13 : Enters 13 := fun args w => by simp [go_sem]
theorem join_own (h : OwnsS u (X + 5) V (allSets (refRows s 256))) : Calls Try.prog 12 #[V] u fun e w' => ∃ v, e = .returned v ∧ Below u.heap.size u w' ∧ v = setV s := by
  have hl : (allSets (refRows s 256)).length ≤ maxLen := by
    have := ref_length s 256
    simp only [allSets, List.length_map, maxLen]
    omega
  have hs : setV (Oct.joins (allSets (refRows s 256))) = setV s := setV_congr (fun b hb => joins_all s b hb)
  by_cases e : allSets (refRows s 256) = []
  · rw [h.2.1 e]
    refine (join_any none 0 0 [] u rfl (by simp [maxLen]) (Or.inl rfl)).mono ?_
    rintro e' w' ⟨rfl, hb⟩
    exact ⟨_, rfl, hb, by rw [← hs, e]⟩
  · obtain ⟨g, c, hv, _, _, _⟩ := h.form e
    subst hv
    refine (join_any _ _ c _ u rfl hl (by have := h.at (m := (allSets (refRows s 256)).length) rfl; rwa [List.take_length] at this)).mono ?_
    rintro e' w' ⟨rfl, hb⟩
    exact ⟨_, rfl, hb, hs⟩
theorem of_own (h : OwnsN u (X + 5) U (ints (allBytes (refRows s 256)))) : Calls Try.prog 13 #[U] u fun e w' => ∃ v, e = .returned v ∧ Below u.heap.size u w' ∧ v = setV s := by
  obtain ⟨a, cap, hv, hby, hc, hm, _, _⟩ := h.form
  subst hv
  refine (of_any a _ cap (allBytes (refRows s 256)) u (ints_length _) (Nat.le_trans hc hm) (bytesAt_of hby) (allBytes_lt s)).mono ?_
  rintro e' w' ⟨rfl, hb⟩
  exact ⟨_, rfl, hb, setV_congr (fun b hb => has_all s b hb)⟩
variable {o : Oper} {a : Act} {r : Value → World → Prop} {Q : Exit → Act → World → Prop}
theorem ob_loadbox27 {B p : Nat} {t : TypeId} {v : Value} (ho : o.op = .load 27 (.tmp p)) (hp : T a p = .pointer (some ⟨B, 0, none⟩)) (hs : Boxed w B t v) (hr : r v w) : o.wp Try.prog a w (Leaves r o a w) Q := by
  obtain ⟨dst, op, type, pos, after, guard⟩ := o
  simp only at ho
  subst ho
  have c := hs.cell
  refine ob_value (v := v) (w' := w) ?_ (Below.refl _ _) hr
  simp [execOp, Act.eval, hp, go_sem, c]
theorem ob_loadbox3 {B p : Nat} {t : TypeId} {v : Value} (ho : o.op = .load 3 (.tmp p)) (hp : T a p = .pointer (some ⟨B, 0, none⟩)) (hs : Boxed w B t v) (hr : r v w) : o.wp Try.prog a w (Leaves r o a w) Q := by
  obtain ⟨dst, op, type, pos, after, guard⟩ := o
  simp only at ho
  subst ho
  have c := hs.cell
  refine ob_value (v := v) (w' := w) ?_ (Below.refl _ _) hr
  simp [execOp, Act.eval, hp, go_sem, c]
end
def spec21 (s : Oct.S) (V U : Value) : List Value := [V, setV s, setV s, .bool true, .bool true, U, setV s, setV s, .bool true, .bool true, .bool true, setV s, .int .i64 (cnt s : Nat), .int .i64 (cnt s : Nat), .bool true, .bool true]
def G21 (w : World) (s : Oct.S) (V U : Value) (i : Nat) (a : Act) (u : World) : Prop := if i < 16 then T a (60 + i) = (spec21 s V U).getD i undef else Boxed u (w.heap.size + 1) 4 (.bool true)
theorem step21 {w : World} {s : Oct.S} {X : Nat} {W : World} {V U : Value} {act : Act} {u : World} {o : Oper} {a : Act} {i : Nat} {x : Value} {Q : Exit → Act → World → Prop} (hd : o.dst = some (60 + i)) (hi : i < 16) (hx : (spec21 s V U).getD i undef = x) (hF : FrB act a ∧ Bt w s X W V U u)
    (h : o.wp Try.prog a u (Leaves (fun v _ => v = x) o a u) Q) : o.wp Try.prog a u (fun a' u' => (FrB act a' ∧ Bt w s X W V U u') ∧ G21 w s V U i a' u' ∧ ∀ j, j ≠ i → G21 w s V U j a u → G21 w s V U j a' u') Q := by
  refine Oper.wp_mono ?_ h
  rintro a' u' ⟨v, rfl, hb, rfl⟩
  rw [hd]
  refine ⟨⟨⟨by simpa [Act.put] using hF.1.1, by simpa [Act.put] using hF.1.2.1, fun k hk => ?_⟩, hF.2.later hb⟩, ?_, fun j hj hG => ?_⟩
  · rw [← hF.1.2.2 k hk]
    simp only [Act.put]
    exact Array.getElem?_setIfInBounds_ne (by omega)
  · unfold G21
    rw [if_pos hi, T_put (by have := hF.1.1; omega)]
    exact hx.symm
  · unfold G21 at hG ⊢
    split
    · rename_i hj16
      rw [if_pos hj16] at hG
      rw [T_put' (by omega)]
      exact hG
    · rename_i hj16
      rw [if_neg hj16] at hG
      exact (hb.block _ hG.lt).trans hG
set_option maxRecDepth 100000 in
theorem reg21 {act : Act} {w : World} {s : Oct.S} {X : Nat} {W : World} {V U : Value} {Q : Exit → Act → World → Prop} (hT1 : T act 1 = .pointer (some ⟨w.heap.size, 0, none⟩)) (hT2 : T act 2 = .pointer (some ⟨w.heap.size + 1, 0, none⟩)) (hT3 : T act 3 = .pointer (some ⟨X, 0, none⟩)) (hT4 : T act 4 = .pointer (some ⟨X + 1, 0, none⟩)) (hT6 : T act 6 = .pointer (some ⟨X + 1 + 1 + 1, 0, none⟩)) (hsz : act.tmps.size = 76)
    (hB : Bt w s X W V U W)
    (K : ∀ a' W', FrB act a' → Bt w s X W V U W' → Boxed W' (w.heap.size + 1) 4 (.bool true) → Q .normal a' W') : (Code.region 21 (opsOf Try.f3 21) true).wp Try.prog Q act W := by
  have h : AllFrom (fun i o => (∀ e ∈ o.after, e.on < i) ∧ ∀ a u, (FrB act a ∧ Bt w s X W V U u) → (∀ e ∈ o.after, Region.binds .any e = true → G21 w s V U e.on a u) → Region.wanted o (yielded (opsOf Try.f3 21) a.tmps) = true ∧ ∀ Q, o.wp Try.prog a u (fun a' u' => (FrB act a' ∧ Bt w s X W V U u') ∧ G21 w s V U i a' u' ∧ ∀ j, j ≠ i → G21 w s V U j a u → G21 w s V U j a' u') Q) 0 (opsOf Try.f3 21).toList := by
    refine ⟨⟨by simp, fun a u hF hE => ⟨wanted_free rfl, fun Q => step21 rfl (by decide) rfl hF (ob_loadbox (r := fun v _ => v = V) rfl ((fr_T hF.1 (by decide)).trans hT3) hF.2.rows rfl)⟩⟩, ?_⟩
    refine ⟨⟨by simp, fun a u hF hE => ⟨wanted_free rfl, fun Q => step21 rfl (by decide) rfl hF (ob_call1 (r := fun v _ => v = setV s) rfl enters12 (hE ⟨0, .data⟩ (by simp) rfl) (join_own hF.2.row))⟩⟩, ?_⟩
    refine ⟨⟨by simp, fun a u hF hE => ⟨wanted_free rfl, fun Q => step21 rfl (by decide) rfl hF (ob_load4 (r := fun v _ => v = setV s) rfl ((fr_T hF.1 (by decide)).trans hT1) hF.2.set rfl)⟩⟩, ?_⟩
    refine ⟨⟨by simp, fun a u hF hE => ⟨wanted_free rfl, fun Q => step21 rfl (by decide) rfl hF (ob_eql4 (r := fun v _ => v = .bool true) rfl (hE ⟨1, .data⟩ (by simp) rfl) (hE ⟨2, .data⟩ (by simp) rfl) (fun _ _ => rfl) rfl)⟩⟩, ?_⟩
    refine ⟨⟨by simp, fun a u hF hE => ⟨wanted_free rfl, fun Q => step21 rfl (by decide) rfl hF (ob_move (r := fun v _ => v = .bool true) rfl (hE ⟨3, .data⟩ (by simp) rfl) rfl)⟩⟩, ?_⟩
    refine ⟨⟨by simp, fun a u hF hE => ⟨wanted_met rfl rfl (show T a 64 = .bool true from hE ⟨4, .guard⟩ (by simp) rfl), fun Q => step21 rfl (by decide) rfl hF (ob_loadbox27 (r := fun v _ => v = U) rfl ((fr_T hF.1 (by decide)).trans hT4) hF.2.bytes rfl)⟩⟩, ?_⟩
    refine ⟨⟨by simp, fun a u hF hE => ⟨wanted_met rfl rfl (show T a 64 = .bool true from hE ⟨4, .guard⟩ (by simp) rfl), fun Q => step21 rfl (by decide) rfl hF (ob_call1 (r := fun v _ => v = setV s) rfl enters13 (hE ⟨5, .data⟩ (by simp) rfl) (of_own hF.2.byte))⟩⟩, ?_⟩
    refine ⟨⟨by simp, fun a u hF hE => ⟨wanted_met rfl rfl (show T a 64 = .bool true from hE ⟨4, .guard⟩ (by simp) rfl), fun Q => step21 rfl (by decide) rfl hF (ob_load4 (r := fun v _ => v = setV s) rfl ((fr_T hF.1 (by decide)).trans hT1) hF.2.set rfl)⟩⟩, ?_⟩
    refine ⟨⟨by simp, fun a u hF hE => ⟨wanted_met rfl rfl (show T a 64 = .bool true from hE ⟨4, .guard⟩ (by simp) rfl), fun Q => step21 rfl (by decide) rfl hF (ob_eql4 (r := fun v _ => v = .bool true) rfl (hE ⟨6, .data⟩ (by simp) rfl) (hE ⟨7, .data⟩ (by simp) rfl) (fun _ _ => rfl) rfl)⟩⟩, ?_⟩
    refine ⟨⟨by simp, fun a u hF hE => ⟨wanted_free rfl, fun Q => step21 rfl (by decide) rfl hF (ob_pick_and (r := fun v _ => v = .bool true) rfl (hE ⟨4, .data⟩ (by simp) rfl) (hE ⟨8, .data⟩ (by simp) rfl) rfl)⟩⟩, ?_⟩
    refine ⟨⟨by simp, fun a u hF hE => ⟨wanted_free rfl, fun Q => step21 rfl (by decide) rfl hF (ob_move (r := fun v _ => v = .bool true) rfl (hE ⟨9, .data⟩ (by simp) rfl) rfl)⟩⟩, ?_⟩
    refine ⟨⟨by simp, fun a u hF hE => ⟨wanted_met rfl rfl (show T a 70 = .bool true from hE ⟨10, .guard⟩ (by simp) rfl), fun Q => step21 rfl (by decide) rfl hF (ob_load4 (r := fun v _ => v = setV s) rfl ((fr_T hF.1 (by decide)).trans hT1) hF.2.set rfl)⟩⟩, ?_⟩
    refine ⟨⟨by simp, fun a u hF hE => ⟨wanted_met rfl rfl (show T a 70 = .bool true from hE ⟨10, .guard⟩ (by simp) rfl), fun Q => step21 rfl (by decide) rfl hF (ob_call1 (r := fun v _ => v = .int .i64 (cnt s : Nat)) rfl enters14 (hE ⟨11, .data⟩ (by simp) rfl) ((count_gen s _).mono (fun _ w' h => ⟨_, h.1, h.2, rfl⟩)))⟩⟩, ?_⟩
    refine ⟨⟨by simp, fun a u hF hE => ⟨wanted_met rfl rfl (show T a 70 = .bool true from hE ⟨10, .guard⟩ (by simp) rfl), fun Q => step21 rfl (by decide) rfl hF (ob_loadbox3 (r := fun v _ => v = .int .i64 (cnt s : Nat)) rfl ((fr_T hF.1 (by decide)).trans hT6) hF.2.num rfl)⟩⟩, ?_⟩
    refine ⟨⟨by simp, fun a u hF hE => ⟨wanted_met rfl rfl (show T a 70 = .bool true from hE ⟨10, .guard⟩ (by simp) rfl), fun Q => step21 rfl (by decide) rfl hF (ob_eqli (r := fun v _ => v = .bool true) rfl (hE ⟨12, .data⟩ (by simp) rfl) (hE ⟨13, .data⟩ (by simp) rfl) rfl)⟩⟩, ?_⟩
    refine ⟨⟨by simp, fun a u hF hE => ⟨wanted_free rfl, fun Q => step21 rfl (by decide) rfl hF (ob_pick_and (r := fun v _ => v = .bool true) rfl (hE ⟨10, .data⟩ (by simp) rfl) (hE ⟨14, .data⟩ (by simp) rfl) rfl)⟩⟩, ?_⟩
    refine ⟨⟨by simp, fun a u hF hE => ⟨wanted_free rfl, fun Q => ?_⟩⟩, trivial⟩
    have hv : T a 75 = .bool true := hE ⟨15, .data⟩ (by simp) rfl
    have hp := (fr_T hF.1 (k := 2) (by decide)).trans hT2
    obtain ⟨b0, hr⟩ := hF.2.res
    have c := hr.cell
    have fz := hr.frozen
    refine ob_skip (w' := u.setCell ⟨w.heap.size + 1, 0, none⟩ (.bool true)) ?_ ?_
    · unfold T at hv hp
      simp [execOp, Act.eval, hv, hp, go_sem, c, fz]
    · obtain ⟨h1, h2⟩ := hF.2.stored true
      refine ⟨⟨hF.1, h1⟩, h2, fun j hj hG => ?_⟩
      unfold G21 at hG ⊢
      split
      · rename_i hj16
        rw [if_pos hj16] at hG
        exact hG
      · exact h2
  have hh : ∀ i o, (opsOf Try.f3 21)[i]? = some o → _ := fun i o ho => allFrom_at h i o (by simpa using ho)
  refine wp_region_each (by kernel_rfl) (fun a u => FrB act a ∧ Bt w s X W V U u) (G21 w s V U) (fun i o e ho he _ => by have := (hh i o ho).1 e he; omega) (fun i o ho a u hF hE => ?_) (fun a u hF hG => ?_) ⟨⟨hsz, rfl, fun _ _ => rfl⟩, hB.later (Below.refl _ _).drew⟩
  · have h1 := (hh i o ho).2 a u hF hE
    rw [Nat.zero_add] at h1
    unfold wpOp
    simp only [ho, h1.1, if_true]
    exact .inl (h1.2 Q)
  · exact K a u hF.1 hF.2 (hG 16 (by decide))
end Go.Proofs.Ytkgpmaclaahmbaa
