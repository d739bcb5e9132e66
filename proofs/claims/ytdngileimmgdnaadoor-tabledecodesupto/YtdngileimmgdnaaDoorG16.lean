/- Drawn regions with guards, each operation shown once; read's last region. -/
import Derived.Test.YtdngileimmgdnaaDoorG15
namespace Go.Proofs.YtdngileimmgdnaaDoor
open Go.RowKit

section
variable {P : Program} {ops : Array Oper} {Q : Exit → Act → World → Prop}
theorem wpAny_invg (Inv : (Nat → Bool) → Act → World → Prop)
    (hwf : ∀ i o e, ops[i]? = some o → e ∈ o.after → Region.binds .any e = true → e.on < i)
    (hstep : ∀ i o, ops[i]? = some o → ∀ L a w, Inv L a w → L i = false → (∀ e ∈ o.after, Region.binds .any e = true → L e.on = true) → (Region.wanted o (yielded ops a.tmps) = true → o.wp P a w (fun a' w' => Inv (more L i) a' w') Q) ∧ (Region.wanted o (yielded ops a.tmps) = false → Inv (more L i) (a.put o.dst undef) w))
    (hend : ∀ L a w, (∀ i, i < ops.size → L i = true) → Inv L a w → Q .normal a w) :
    ∀ (fuel : Nat) (listed : Array Bool) (a : Act) (w : World), listed.size = ops.size → left ops listed ≤ fuel → Inv (fun i => listed.getD i true) a w → wpAny P .any ops Q fuel listed a w := by
  intro fuel
  induction fuel with
  | zero =>
    intro listed a w hsz hl hf
    have hall := left_zero (Nat.le_zero.1 hl)
    refine ⟨?_, hend _ a w (fun i hi => hall i hi) hf⟩
    apply List.eq_nil_iff_forall_not_mem.2
    intro i hi
    obtain ⟨h0, o, ho, _⟩ := mem_ready.1 hi
    have hlt := (Array.getElem?_eq_some_iff.1 ho).1
    rw [hall i hlt] at h0
    cases h0
  | succ fuel ih =>
    intro listed a w hsz hl hf
    refine ⟨fun h => hend _ a w (fun i hi => all_of_ready hwf hsz h i hi) hf, fun i hi => ?_⟩
    obtain ⟨h0, o, ho, hafter⟩ := mem_ready.1 hi
    have hlt := (Array.getElem?_eq_some_iff.1 ho).1
    obtain ⟨hs, hn⟩ := hstep i o ho _ a w hf h0 (fun e he hb => by
      have h4 := hafter e he hb
      have h5 := hwf i o e ho he hb
      have hs : e.on < listed.size := by omega
      simp [hs] at h4 ⊢
      exact h4)
    have e : (fun j => (listed.setIfInBounds i true).getD j true) = more (fun j => listed.getD j true) i := by
      funext j
      unfold more
      by_cases e : j = i
      · subst e
        have hjs : j < listed.size := by omega
        simp [hjs]
      · rw [getD_set_ne true (Ne.symm e)]
        simp [e]
    unfold wpOp
    simp only [ho]
    by_cases hw : Region.wanted o (yielded ops a.tmps) = true
    · rw [if_pos hw]
      refine .inl (Oper.wp_mono (fun a' w' h => ?_) (hs hw))
      refine ih _ a' w' (by simpa using hsz) (by have := left_set hlt h0 hsz; omega) ?_
      rw [e]
      exact h
    · rw [if_neg hw]
      refine ih _ _ w (by simpa using hsz) (by have := left_set hlt h0 hsz; omega) ?_
      rw [e]
      exact hn (by simpa using hw)
theorem wp_region_invg {id : Nat} {a : Act} {w : World} (hm : P.follows .mixedOrders = true) (Inv : (Nat → Bool) → Act → World → Prop)
    (hwf : ∀ i o e, ops[i]? = some o → e ∈ o.after → Region.binds .any e = true → e.on < i)
    (hstep : ∀ i o, ops[i]? = some o → ∀ L a w, Inv L a w → L i = false → (∀ e ∈ o.after, Region.binds .any e = true → L e.on = true) → (Region.wanted o (yielded ops a.tmps) = true → o.wp P a w (fun a' w' => Inv (more L i) a' w') Q) ∧ (Region.wanted o (yielded ops a.tmps) = false → Inv (more L i) (a.put o.dst undef) w))
    (hend : ∀ L a w, (∀ i, i < ops.size → L i = true) → Inv L a w → Q .normal a w)
    (h0 : ∀ L, (∀ i, i < ops.size → L i = false) → Inv L a w.drew) : (Code.region id ops true).wp P Q a w := by
  refine wp_region_any hm (wpAny_invg Inv hwf hstep hend ops.size _ a _ (by simp) ?_ (h0 _ (fun i hi => by simp [hi])))
  unfold left
  have := List.length_filter_le (fun i => !(Array.replicate ops.size false).getD i true) (List.range ops.size)
  simpa using this
end
theorem wanted_g {o : Oper} {y : Nat → Option Bool} (h : o.guard = some (6, true)) : Region.wanted o y = (y 6 == some true) := by unfold Region.wanted; rw [h]
theorem put_ne {a : Act} {d k : Nat} {v : Value} (h : d ≠ k) : (a.put (some d) v).tmps[k]? = a.tmps[k]? := by simp [Act.put, Array.getElem?_setIfInBounds_ne h]
theorem put_eq {a : Act} {d : Nat} {v : Value} (h : d < a.tmps.size) : (a.put (some d) v).tmps[d]? = some v := by simp [Act.put, h]
theorem wp_val {o : Oper} {a : Act} {w w' : World} {K : Act → World → Prop} {Q : Exit → Act → World → Prop} {v : Value} (h : (execOp a.eval o).run Tryd.prog w = .ok (.value v) w') (hk : K (a.put o.dst v) w') : o.wp Tryd.prog a w K Q := by
  unfold Oper.wp
  rw [h]
  exact hk
theorem wp_skp {o : Oper} {a : Act} {w w' : World} {K : Act → World → Prop} {Q : Exit → Act → World → Prop} (h : (execOp a.eval o).run Tryd.prog w = .ok .skip w') (hk : K (a.put o.dst undef) w') : o.wp Tryd.prog a w K Q := by
  unfold Oper.wp
  rw [h]
  exact hk
theorem wp_call1 {o : Oper} {a : Act} {w : World} {K : Act → World → Prop} {Q : Exit → Act → World → Prop} {p f : Nat} {ts : Array TypeId} (ho : o.op = .call { callee := .value (.func f), args := #[.tmp p], argTypes := ts }) (hf : ∀ (args : Array Value) (w : World), (callFunc f args).run Tryd.prog w = .ok (.enter f args) w) {v : Value} (hx : a.tmps[p]? = some v)
    (hc : Calls Tryd.prog f #[v] w fun e w' => ∃ r, e = .returned r ∧ K (a.put o.dst r) w') : o.wp Tryd.prog a w K Q := by
  have h : (execOp a.eval o).run Tryd.prog w = .ok (.enter f #[v]) w := by
    obtain ⟨dst, op, type, pos, after, guard⟩ := o
    simp only at ho
    subst ho
    simp [Act.eval, hx, go_sem]
    exact hf _ _
  unfold Oper.wp
  rw [h]
  refine hc.mono ?_
  rintro e w' ⟨r, rfl, hk⟩
  exact hk
def V26 (P T j S lft : Nat) (f : Nat → Int) (V2 V3 : Value) (a1 : Option Addr) (c1 : Nat) (eq z : Bool) : Nat → Value
  | 0 => .agg (dv f (.slice a1 j c1) V2 V3)
  | 1 => .pointer (some ⟨T, 256, none⟩)
  | 2 => .slice a1 j c1
  | 3 => .int .i64 (j : Nat)
  | 4 => .int .i64 (S : Nat)
  | 5 => .bool eq
  | 6 => .bool eq
  | 7 => if eq then .pointer (some ⟨P, 0, none⟩) else undef
  | 8 => if eq then .int .i64 (lft : Nat) else undef
  | 9 => if eq then .bool z else undef
  | _ => .bool (eq && z)
structure I26 (act : Act) (W : World) (A P T j S lft : Nat) (f : Nat → Int) (V2 V3 : Value) (a1 : Option Addr) (c1 : Nat) (eq z : Bool) (L : Nat → Bool) (x : Act) (u : World) : Prop where
  sz : x.tmps.size = 104
  df : x.defers = act.defers
  fr : ∀ k, k ≠ 3 → k < 93 → x.tmps[k]? = act.tmps[k]?
  vs : ∀ i, i < 11 → L i = true → x.tmps[93 + i]? = some (V26 P T j S lft f V2 V3 a1 c1 eq z i)
  v3 : L 12 = true → x.tmps[3]? = some (.bool (eq && z))
  w0 : L 11 = false → u = W.drew
  w1 : L 11 = true → u = W.drew.setRow A (dv f (.slice a1 j c1) V2 V3)
section
variable {act x : Act} {W u : World} {A P T j S lft : Nat} {f : Nat → Int} {V2 V3 : Value} {a1 : Option Addr} {c1 : Nat} {eq z : Bool} {L : Nat → Bool}
theorem I26.put (h : I26 act W A P T j S lft f V2 V3 a1 c1 eq z L x u) {i : Nat} (hi : i < 11) : I26 act W A P T j S lft f V2 V3 a1 c1 eq z (more L i) (x.put (some (93 + i)) (V26 P T j S lft f V2 V3 a1 c1 eq z i)) u := by
  have e11 : more L i 11 = L 11 := by unfold more; rw [if_neg (by omega)]
  have e12 : more L i 12 = L 12 := by unfold more; rw [if_neg (by omega)]
  refine ⟨by simpa [Act.put] using h.sz, h.df, fun k h3 hk => (put_ne (by omega)).trans (h.fr k h3 hk), fun k hk hL => ?_, fun h1 => (put_ne (by omega)).trans (h.v3 (e12 ▸ h1)), fun h1 => h.w0 (e11 ▸ h1), fun h1 => h.w1 (e11 ▸ h1)⟩
  by_cases e : k = i
  · subst e
    exact put_eq (by rw [h.sz]; omega)
  · refine (put_ne (by omega)).trans (h.vs k hk ?_)
    unfold more at hL
    rw [if_neg e] at hL
    exact hL
theorem I26.at (h : I26 act W A P T j S lft f V2 V3 a1 c1 eq z L x u) : u = W.drew ∨ u = W.drew.setRow A (dv f (.slice a1 j c1) V2 V3) := by
  cases h1 : L 11
  · exact .inl (h.w0 h1)
  · exact .inr (h.w1 h1)
theorem I26.tab (h : I26 act W A P T j S lft f V2 V3 a1 c1 eq z L x u) (hT : DB W T f (.slice a1 j c1) V2 V3) (hA : A ≠ T) : DB u T f (.slice a1 j c1) V2 V3 := by
  rcases h.at with rfl | rfl
  · exact hT
  · exact DB.same (w := W.drew) hT (heap_row _ _ _ _ (Ne.symm hA))
end
set_option maxRecDepth 100000 in
set_option maxHeartbeats 4000000 in
theorem reg26 {act : Act} {W : World} {A P T j S lft : Nat} {f : Nat → Int} {V2 V3 : Value} {a1 : Option Addr} {c1 : Nat} {eq z : Bool} {Q : Exit → Act → World → Prop} (hs : act.tmps.size = 104) (h2 : act.tmps[2]? = some (.pointer (some ⟨A, 0, none⟩))) (h4 : act.tmps[4]? = some (.pointer (some ⟨P, 0, none⟩))) (h5 : act.tmps[5]? = some (.int .i64 (S : Nat))) (h8 : act.tmps[8]? = some (.pointer (some ⟨T, 0, none⟩)))
    (heq : ((j : Int) == (S : Int)) = eq) (hz : ((lft : Int) == 0) = z) (hT : DB W T f (.slice a1 j c1) V2 V3) (hA : DB W A (fun _ => 0) nilV nilV nilV) (hAT : A ≠ T) (h1 : V2.oneCell' = true ∧ V3.oneCell' = true)
    (hl : ∀ u, u = W.drew ∨ u = W.drew.setRow A (dv f (.slice a1 j c1) V2 V3) → Calls Tryd.prog 40 #[.pointer (some ⟨P, 0, none⟩)] u fun e w' => e = .returned (.int .i64 (lft : Nat)) ∧ w' = u)
    (K : ∀ a', a'.defers = act.defers → a'.tmps[2]? = some (.pointer (some ⟨A, 0, none⟩)) → a'.tmps[3]? = some (.bool (eq && z)) → Q .normal a' (W.drew.setRow A (dv f (.slice a1 j c1) V2 V3))) : (Code.region 26 (opsOf Tryd.f24 26) true).wp Tryd.prog Q act W := by
  have hsz : (opsOf Tryd.f24 26).size = 13 := by kernel_rfl
  refine wp_region_invg (by kernel_rfl) (I26 act W A P T j S lft f V2 V3 a1 c1 eq z) ?wf ?step ?fin ?zero
  case zero =>
    intro L hL
    have h11 := hL 11 (by omega)
    have h12 := hL 12 (by omega)
    refine ⟨hs, rfl, fun _ _ _ => rfl, fun i hi h => ?_, fun h => absurd h (by rw [h12]; decide), fun _ => rfl, fun h => absurd h (by rw [h11]; decide)⟩
    rw [hL i (by omega)] at h
    cases h
  case fin =>
    intro L x u hL hI
    have e := hI.w1 (hL 11 (by omega))
    subst e
    exact K x hI.df ((hI.fr 2 (by decide) (by decide)).trans h2) (hI.v3 (hL 12 (by omega)))
  case wf =>
    have h : AllFrom (fun i o => ∀ e ∈ o.after, Region.binds .any e = true → e.on < i) 0 (opsOf Tryd.f24 26).toList := by
      refine ⟨by simp [Region.binds], by simp [Region.binds], by simp [Region.binds], by simp [Region.binds], by simp [Region.binds], by simp [Region.binds], by simp [Region.binds], by simp [Region.binds], by simp [Region.binds], by simp [Region.binds], by simp [Region.binds], by simp [Region.binds], by simp [Region.binds], trivial⟩
    intro i o e ho he hb
    have := allFrom_at h i o (by simpa using ho) e he hb
    omega
  case step =>
    have h : AllFrom (fun k p => ∀ L x u, I26 act W A P T j S lft f V2 V3 a1 c1 eq z L x u → L k = false → (∀ e ∈ p.after, Region.binds .any e = true → L e.on = true) → (Region.wanted p (yielded (opsOf Tryd.f24 26) x.tmps) = true → p.wp Tryd.prog x u (fun x' u' => I26 act W A P T j S lft f V2 V3 a1 c1 eq z (more L k) x' u') Q) ∧ (Region.wanted p (yielded (opsOf Tryd.f24 26) x.tmps) = false → I26 act W A P T j S lft f V2 V3 a1 c1 eq z (more L k) (x.put p.dst undef) u)) 0 (opsOf Tryd.f24 26).toList := by
      refine ⟨?s0, ?s1, ?s2, ?s3, ?s4, ?s5, ?s6, ?s7, ?s8, ?s9, ?s10, ?s11, ?s12, trivial⟩
      case s0 =>
        intro L x u hI hk hE
        refine ⟨fun _ => ?_, fun h => absurd h (by rw [wanted_free rfl]; decide)⟩
        have t8 := (hI.fr 8 (by decide) (by decide)).trans h8
        obtain ⟨fs, hu⟩ := underD
        exact wp_load_row _ (.tmp 8) rfl T (by simp [Act.eval, t8]) _ _ (0, 0) _ (hI.tab hT hAT) hu rfl (by rw [dv_size]; exact sizeD) (hI.put (i := 0) (by decide))
      case s1 =>
        intro L x u hI hk hE
        refine ⟨fun _ => ?_, fun h => absurd h (by rw [wanted_free rfl]; decide)⟩
        have t8 := (hI.fr 8 (by decide) (by decide)).trans h8
        exact wp_val (v := V26 P T j S lft f V2 V3 a1 c1 eq z 1) (by simp [execOp, Act.eval, go_sem, V26, t8]) (hI.put (by decide))
      case s2 =>
        intro L x u hI hk hE
        refine ⟨fun _ => ?_, fun h => absurd h (by rw [wanted_free rfl]; decide)⟩
        have t1 := hI.vs 1 (by decide) (hE ⟨1, .data⟩ (by simp) rfl)
        simp only [V26] at t1
        have q := (hI.tab hT hAT).hi.1
        exact wp_val (v := V26 P T j S lft f V2 V3 a1 c1 eq z 2) (by simp [execOp, Act.eval, go_sem, V26, t1, q]) (hI.put (by decide))
      case s3 =>
        intro L x u hI hk hE
        refine ⟨fun _ => ?_, fun h => absurd h (by rw [wanted_free rfl]; decide)⟩
        have t1 := hI.vs 2 (by decide) (hE ⟨2, .data⟩ (by simp) rfl)
        simp only [V26] at t1
        exact wp_val (v := V26 P T j S lft f V2 V3 a1 c1 eq z 3) (by simp [Act.eval, go_sem, V26, t1]) (hI.put (by decide))
      case s4 =>
        intro L x u hI hk hE
        refine ⟨fun _ => ?_, fun h => absurd h (by rw [wanted_free rfl]; decide)⟩
        have t5 := (hI.fr 5 (by decide) (by decide)).trans h5
        exact wp_val (v := V26 P T j S lft f V2 V3 a1 c1 eq z 4) (by simp [execOp, Act.eval, go_sem, V26, t5]) (hI.put (by decide))
      case s5 =>
        intro L x u hI hk hE
        refine ⟨fun _ => ?_, fun h => absurd h (by rw [wanted_free rfl]; decide)⟩
        have t1 := hI.vs 3 (by decide) (hE ⟨3, .data⟩ (by simp) rfl)
        simp only [V26] at t1
        have t2 := hI.vs 4 (by decide) (hE ⟨4, .data⟩ (by simp) rfl)
        simp only [V26] at t2
        exact wp_val (v := V26 P T j S lft f V2 V3 a1 c1 eq z 5) (by simp [execOp, Act.eval, go_sem, V26, t1, t2, heq]) (hI.put (by decide))
      case s6 =>
        intro L x u hI hk hE
        refine ⟨fun _ => ?_, fun h => absurd h (by rw [wanted_free rfl]; decide)⟩
        have t1 := hI.vs 5 (by decide) (hE ⟨5, .data⟩ (by simp) rfl)
        simp only [V26] at t1
        exact wp_val (v := V26 P T j S lft f V2 V3 a1 c1 eq z 6) (by simp [execOp, Act.eval, go_sem, V26, t1]) (hI.put (by decide))
      case s7 =>
        intro L x u hI hk hE
        have g6 := hI.vs 6 (by decide) (hE ⟨6, .guard⟩ (by simp) rfl)
        simp only [V26] at g6
        have hy : yielded (opsOf Tryd.f24 26) x.tmps 6 = some eq := by
          have hd : ((opsOf Tryd.f24 26)[6]?).bind (·.dst) = some 99 := by kernel_rfl
          unfold yielded
          rw [hd, Option.bind_some, g6]
        cases heqc : eq with
        | false =>
          subst heqc
          refine ⟨fun h => ?_, fun _ => ?_⟩
          · exact absurd h (by rw [wanted_g rfl, hy]; decide)
          · have h2 := hI.put (i := 7) (by decide)
            simpa [V26] using h2
        | true =>
          subst heqc
          refine ⟨fun _ => ?_, fun h => ?_⟩
          · have t4 := (hI.fr 4 (by decide) (by decide)).trans h4
            exact wp_val (v := V26 P T j S lft f V2 V3 a1 c1 true z 7) (by simp [execOp, Act.eval, go_sem, V26, t4]) (hI.put (by decide))
          · exact absurd h (by rw [wanted_g rfl, hy]; decide)
      case s8 =>
        intro L x u hI hk hE
        have g6 := hI.vs 6 (by decide) (hE ⟨6, .guard⟩ (by simp) rfl)
        simp only [V26] at g6
        have hy : yielded (opsOf Tryd.f24 26) x.tmps 6 = some eq := by
          have hd : ((opsOf Tryd.f24 26)[6]?).bind (·.dst) = some 99 := by kernel_rfl
          unfold yielded
          rw [hd, Option.bind_some, g6]
        cases heqc : eq with
        | false =>
          subst heqc
          refine ⟨fun h => ?_, fun _ => ?_⟩
          · exact absurd h (by rw [wanted_g rfl, hy]; decide)
          · have h2 := hI.put (i := 8) (by decide)
            simpa [V26] using h2
        | true =>
          subst heqc
          refine ⟨fun _ => ?_, fun h => ?_⟩
          · have t1 := hI.vs 7 (by decide) (hE ⟨7, .data⟩ (by simp) rfl)
            simp only [V26, if_true] at t1
            refine wp_call1 rfl (fun args w => by simp [go_sem]) t1 ((hl u hI.at).mono ?_)
            rintro e w' ⟨rfl, rfl⟩
            exact ⟨_, rfl, hI.put (i := 8) (by decide)⟩
          · exact absurd h (by rw [wanted_g rfl, hy]; decide)
      case s9 =>
        intro L x u hI hk hE
        have g6 := hI.vs 6 (by decide) (hE ⟨6, .guard⟩ (by simp) rfl)
        simp only [V26] at g6
        have hy : yielded (opsOf Tryd.f24 26) x.tmps 6 = some eq := by
          have hd : ((opsOf Tryd.f24 26)[6]?).bind (·.dst) = some 99 := by kernel_rfl
          unfold yielded
          rw [hd, Option.bind_some, g6]
        cases heqc : eq with
        | false =>
          subst heqc
          refine ⟨fun h => ?_, fun _ => ?_⟩
          · exact absurd h (by rw [wanted_g rfl, hy]; decide)
          · have h2 := hI.put (i := 9) (by decide)
            simpa [V26] using h2
        | true =>
          subst heqc
          refine ⟨fun _ => ?_, fun h => ?_⟩
          · have t1 := hI.vs 8 (by decide) (hE ⟨8, .data⟩ (by simp) rfl)
            simp only [V26, if_true] at t1
            exact wp_val (v := V26 P T j S lft f V2 V3 a1 c1 true z 9) (by simp [execOp, Act.eval, go_sem, V26, t1, hz]) (hI.put (by decide))
          · exact absurd h (by rw [wanted_g rfl, hy]; decide)
      case s10 =>
        intro L x u hI hk hE
        refine ⟨fun _ => ?_, fun h => absurd h (by rw [wanted_free rfl]; decide)⟩
        have t1 := hI.vs 6 (by decide) (hE ⟨6, .data⟩ (by simp) rfl)
        have t2 := hI.vs 9 (by decide) (hE ⟨9, .data⟩ (by simp) rfl)
        simp only [V26] at t1 t2
        cases heqc : eq with
        | false =>
          subst heqc
          exact wp_val (v := V26 P T j S lft f V2 V3 a1 c1 false z 10) (by simp [execOp, Act.eval, go_sem, V26, t1]) (hI.put (by decide))
        | true =>
          subst heqc
          simp only [if_true] at t2
          exact wp_val (v := V26 P T j S lft f V2 V3 a1 c1 true z 10) (by simp [execOp, Act.eval, go_sem, V26, t1, t2]) (hI.put (by decide))
      case s11 =>
        intro L x u hI hk hE
        refine ⟨fun _ => ?_, fun h => absurd h (by rw [wanted_free rfl]; decide)⟩
        have t0 := hI.vs 0 (by decide) (hE ⟨0, .data⟩ (by simp) rfl)
        simp only [V26] at t0
        have t2 := (hI.fr 2 (by decide) (by decide)).trans h2
        have hw := hI.w0 hk
        subst hw
        refine wp_store_row _ (.tmp 2) (.tmp 93) rfl A (dv f (.slice a1 j c1) V2 V3) (by simp [Act.eval, t2]) (by simp [Act.eval, t0]) _ _ (show (W.drew).heap[A]? = some (.cells (dv (fun _ => 0) nilV nilV nilV) 26 (0, 0)) from hA) (by rw [dv_size]; exact sizeD) (by rw [dv_size, dv_size]) (dv_one f ⟨rfl, h1.1, h1.2⟩) ?_
        refine ⟨hI.sz, hI.df, fun k h3 hk => hI.fr k h3 hk, fun k hk2 hL => hI.vs k hk2 (by unfold more at hL; rw [if_neg (by omega)] at hL; exact hL), fun h => hI.v3 (by simpa [more] using h), fun h => by simp [more] at h, fun _ => rfl⟩
      case s12 =>
        intro L x u hI hk hE
        refine ⟨fun _ => ?_, fun h => absurd h (by rw [wanted_free rfl]; decide)⟩
        have t1 := hI.vs 10 (by decide) (hE ⟨10, .data⟩ (by simp) rfl)
        simp only [V26] at t1
        refine wp_val (v := .bool (eq && z)) (w' := u) (by simp [execOp, Act.eval, go_sem, t1]) ?_
        have e11 : more L 12 11 = L 11 := by unfold more; rw [if_neg (by omega)]
        exact ⟨by simpa [Act.put] using hI.sz, hI.df, fun k h3 hk2 => (put_ne (by omega)).trans (hI.fr k h3 hk2), fun k hk2 hL => (put_ne (by omega)).trans (hI.vs k hk2 (by unfold more at hL; rw [if_neg (by omega)] at hL; exact hL)), fun _ => put_eq (by rw [hI.sz]; omega), fun h => hI.w0 (e11 ▸ h), fun h => hI.w1 (e11 ▸ h)⟩
    intro i o ho
    have h2 := allFrom_at h i o (by simpa using ho)
    rw [Nat.zero_add] at h2
    exact h2
theorem post_read {a' : Act} {W' : World} {A : Nat} {f : Nat → Int} {V1 V2 V3 : Value} {b : Bool} {Post : Ending → World → Prop} (hd : a'.defers = []) (h2 : a'.tmps[2]? = some (.pointer (some ⟨A, 0, none⟩))) (h3 : a'.tmps[3]? = some (.bool b)) (hA : DB W' A f V1 V2 V3) (hp : Post (.returned (.tuple #[.agg (dv f V1 V2 V3), .bool b])) W') : bodyPost Tryd.prog Tryd.f24 Post .ret a' W' :=
  bodyPost_ret (results_dfa rfl _ _ hA (v := .bool b) (by simp [h2]) (by simp [h3])) hd hp
theorem rd_left {w u : World} {P H A o : Nat} {zs : List Int} {X : Array Value} (h : Rd w P H o zs) (hP : P ≠ A) (hH : H ≠ A) (hu : u = w.drew ∨ u = w.drew.setRow A X) : Calls Tryd.prog 40 #[.pointer (some ⟨P, 0, none⟩)] u fun e w' => e = .returned (.int .i64 (zs.length : Nat)) ∧ w' = u := by
  have hd : Rd w.drew P H o zs := h.later rfl rfl
  rcases hu with rfl | rfl
  · exact left_any P H o zs _ hd
  · exact left_any P H o zs _ (hd.later (heap_row _ _ _ _ hP) (heap_row _ _ _ _ hH))
end Go.Proofs.YtdngileimmgdnaaDoor
