/- PartSets: the region that makes the own machine, whatever its order. -/
import Derived.Test.YtemmicnhnaafmaaG16
namespace Go.Proofs.Ytemmicnhnaafmaa
open Go.RowKit

def V9 (M : Nat) (S : Int) (gE cE en : Nat) (ea : Option Addr) (ec : Nat) (ra : Option Addr) (rn rc : Nat) : Nat → Value
  | 0 => .pointer (some ⟨M, 0, none⟩)
  | 1 => .int .i64 S
  | 2 => .slice (some ⟨gE, 0, none⟩) (en + 1) cE
  | 3 => .pointer (some ⟨M, 1, none⟩)
  | 4 => .slice ea en ec
  | 5 => .int .i64 (en : Nat)
  | 6 => .slice (some ⟨gE, 0, none⟩) en cE
  | 7 => .pointer (some ⟨M, 2, none⟩)
  | 8 => .slice ra rn rc
  | _ => .agg #[.int .i64 S, .slice (some ⟨gE, 0, none⟩) en cE, .slice ra rn rc]
structure I9 (act : Act) (W : World) (M : Nat) (S : Int) (gE cE en : Nat) (ea : Option Addr) (ec : Nat) (ra : Option Addr) (rn rc : Nat) (L : Nat → Bool) (x : Act) (u : World) : Prop where
  sz : x.tmps.size = 171
  df : x.defers = act.defers
  fr : ∀ k, k ≠ 5 → (k < 33 ∨ 43 ≤ k) → x.tmps[k]? = act.tmps[k]?
  vs : ∀ i, i < 10 → L i = true → x.tmps[33 + i]? = some (V9 M S gE cE en ea ec ra rn rc i)
  w0 : L 10 = false → u = W.drew
  w1 : L 10 = true → x.tmps[5]? = some (.pointer (some ⟨W.heap.size, 0, none⟩))
  w2 : L 10 = true → L 11 = false → u = W.drew.alloc (.cells #[.int .i64 0, .slice none 0 0, .slice none 0 0] 25)
  w3 : L 10 = true → L 11 = true → u = W.drew.alloc (.cells #[.int .i64 S, .slice (some ⟨gE, 0, none⟩) en cE, .slice ra rn rc] 25)
  ord : L 11 = true → L 10 = true
section
variable {act x : Act} {W u : World} {M : Nat} {S : Int} {gE cE en : Nat} {ea : Option Addr} {ec : Nat} {ra : Option Addr} {rn rc : Nat} {L : Nat → Bool}
theorem I9.put (h : I9 act W M S gE cE en ea ec ra rn rc L x u) {i : Nat} (hi : i < 10) : I9 act W M S gE cE en ea ec ra rn rc (more L i) (x.put (some (33 + i)) (V9 M S gE cE en ea ec ra rn rc i)) u := by
  have e10 : more L i 10 = L 10 := by unfold more; rw [if_neg (by omega)]
  have e11 : more L i 11 = L 11 := by unfold more; rw [if_neg (by omega)]
  refine ⟨by simpa [Act.put] using h.sz, h.df, fun k h5 hk => (put_ne (by omega)).trans (h.fr k h5 hk), fun j hj hL => ?_, fun h1 => h.w0 (e10 ▸ h1), fun h1 => (put_ne (by omega)).trans (h.w1 (e10 ▸ h1)), fun h1 h2 => h.w2 (e10 ▸ h1) (e11 ▸ h2), fun h1 h2 => h.w3 (e10 ▸ h1) (e11 ▸ h2), fun h1 => by rw [e10]; exact h.ord (e11 ▸ h1)⟩
  by_cases e : j = i
  · subst e
    exact put_eq (by rw [h.sz]; omega)
  · refine (put_ne (by omega)).trans (h.vs j hj ?_)
    unfold more at hL
    rw [if_neg e] at hL
    exact hL
theorem I9.mach (h : I9 act W M S gE cE en ea ec ra rn rc L x u) (hM : MBk W M S ea en ec ra rn rc) : MBk u M S ea en ec ra rn rc := by
  have hd : MBk W.drew M S ea en ec ra rn rc := hM
  cases h1 : L 10
  · rw [h.w0 h1]; exact hd
  · cases h2 : L 11
    · rw [h.w2 h1 h2]; exact hd.later ((Below.refl _ _).alloc (Nat.le_refl _) _)
    · rw [h.w3 h1 h2]; exact hd.later ((Below.refl _ _).alloc (Nat.le_refl _) _)
end
theorem wp_val {o : Oper} {a : Act} {w w' : World} {K : Act → World → Prop} {Q : Exit → Act → World → Prop} {v : Value} (h : (execOp a.eval o).run Try.prog w = .ok (.value v) w') (hk : K (a.put o.dst v) w') : o.wp Try.prog a w K Q := by
  unfold Oper.wp
  rw [h]
  exact hk
theorem infoM : (Try.prog.info? 25).map (fun i => (i.zero, i.size)) = some (some (.agg #[.int .i64 0, .slice none 0 0, .slice none 0 0]), 3) := by kernel_rfl
set_option maxRecDepth 100000 in
set_option maxHeartbeats 4000000 in
theorem reg9 {act : Act} {W : World} {M : Nat} {S : Int} {gE cE en : Nat} {ea : Option Addr} {ec : Nat} {ra : Option Addr} {rn rc : Nat} {Q : Exit → Act → World → Prop} (hs : act.tmps.size = 171) (h1 : act.tmps[1]? = some (.pointer (some ⟨M, 0, none⟩))) (h4 : act.tmps[4]? = some (.slice (some ⟨gE, 0, none⟩) (en + 1) cE))
    (hM : MBk W M S ea en ec ra rn rc) (hc : en ≤ cE)
    (K : Q .normal (((((((((((act.put (some 33) (V9 M S gE cE en ea ec ra rn rc 0)).put (some 34) (V9 M S gE cE en ea ec ra rn rc 1)).put (some 35) (V9 M S gE cE en ea ec ra rn rc 2)).put (some 36) (V9 M S gE cE en ea ec ra rn rc 3)).put (some 37) (V9 M S gE cE en ea ec ra rn rc 4)).put (some 38) (V9 M S gE cE en ea ec ra rn rc 5)).put (some 39) (V9 M S gE cE en ea ec ra rn rc 6)).put (some 40) (V9 M S gE cE en ea ec ra rn rc 7)).put (some 41) (V9 M S gE cE en ea ec ra rn rc 8)).put (some 42) (V9 M S gE cE en ea ec ra rn rc 9)).put (some 5) (.pointer (some ⟨W.heap.size, 0, none⟩))) (W.drew.alloc (.cells #[.int .i64 S, .slice (some ⟨gE, 0, none⟩) en cE, .slice ra rn rc] 25))) : (Code.region 9 (opsOf Try.f3 9) true).wp Try.prog Q act W := by
  refine wp_region_inv (by kernel_rfl) (I9 act W M S gE cE en ea ec ra rn rc) ?wf ?step ?fin ?zero
  case zero =>
    intro L hL
    have hz : (opsOf Try.f3 9).size = 12 := by kernel_rfl
    have h10 := hL 10 (by omega)
    have h11 := hL 11 (by omega)
    refine ⟨hs, rfl, fun _ _ _ => rfl, fun i hi h => ?_, fun _ => rfl, fun h => absurd h (by rw [h10]; decide), fun h => absurd h (by rw [h10]; decide), fun h => absurd h (by rw [h10]; decide), fun h => absurd h (by rw [h11]; decide)⟩
    rw [hL i (by omega)] at h
    cases h
  case fin =>
    intro L x u hL hI
    have hz : (opsOf Try.f3 9).size = 12 := by kernel_rfl
    have l10 := hL 10 (by omega)
    have l11 := hL 11 (by omega)
    have e := hI.w3 l10 l11
    subst e
    have hx : x = (((((((((((act.put (some 33) (V9 M S gE cE en ea ec ra rn rc 0)).put (some 34) (V9 M S gE cE en ea ec ra rn rc 1)).put (some 35) (V9 M S gE cE en ea ec ra rn rc 2)).put (some 36) (V9 M S gE cE en ea ec ra rn rc 3)).put (some 37) (V9 M S gE cE en ea ec ra rn rc 4)).put (some 38) (V9 M S gE cE en ea ec ra rn rc 5)).put (some 39) (V9 M S gE cE en ea ec ra rn rc 6)).put (some 40) (V9 M S gE cE en ea ec ra rn rc 7)).put (some 41) (V9 M S gE cE en ea ec ra rn rc 8)).put (some 42) (V9 M S gE cE en ea ec ra rn rc 9)).put (some 5) (.pointer (some ⟨W.heap.size, 0, none⟩))) := by
      obtain ⟨tmps, defers⟩ := x
      obtain ⟨h1, h2, h3, h4, _, h6, _, _, _⟩ := hI
      simp only at h1 h2 h3 h4 h6
      simp only [Act.put, Act.mk.injEq]
      refine ⟨?_, h2⟩
      apply Array.ext_getElem?
      intro k
      by_cases hk : k ∈ ([33, 34, 35, 36, 37, 38, 39, 40, 41, 42, 5] : List Nat)
      · simp only [List.mem_cons, List.not_mem_nil, or_false] at hk
        rcases hk with rfl | rfl | rfl | rfl | rfl | rfl | rfl | rfl | rfl | rfl | rfl
        · rw [h4 0 (by decide) (hL 0 (by omega))]; simp [hs]
        · rw [h4 1 (by decide) (hL 1 (by omega))]; simp [hs]
        · rw [h4 2 (by decide) (hL 2 (by omega))]; simp [hs]
        · rw [h4 3 (by decide) (hL 3 (by omega))]; simp [hs]
        · rw [h4 4 (by decide) (hL 4 (by omega))]; simp [hs]
        · rw [h4 5 (by decide) (hL 5 (by omega))]; simp [hs]
        · rw [h4 6 (by decide) (hL 6 (by omega))]; simp [hs]
        · rw [h4 7 (by decide) (hL 7 (by omega))]; simp [hs]
        · rw [h4 8 (by decide) (hL 8 (by omega))]; simp [hs]
        · rw [h4 9 (by decide) (hL 9 (by omega))]; simp [hs]
        · rw [h6 l10]; simp [hs]
      · simp only [List.mem_cons, List.not_mem_nil, or_false, not_or] at hk
        rw [h3 k (by omega) (by omega)]
        rw [Array.getElem?_setIfInBounds_ne (by omega), Array.getElem?_setIfInBounds_ne (by omega), Array.getElem?_setIfInBounds_ne (by omega), Array.getElem?_setIfInBounds_ne (by omega), Array.getElem?_setIfInBounds_ne (by omega), Array.getElem?_setIfInBounds_ne (by omega), Array.getElem?_setIfInBounds_ne (by omega), Array.getElem?_setIfInBounds_ne (by omega), Array.getElem?_setIfInBounds_ne (by omega), Array.getElem?_setIfInBounds_ne (by omega), Array.getElem?_setIfInBounds_ne (by omega)]
    rw [hx]
    exact K
  case wf =>
    have h : AllFrom (fun i o => ∀ e ∈ o.after, Region.binds .any e = true → e.on < i) 0 (opsOf Try.f3 9).toList := by
      refine ⟨by simp [Region.binds], by simp [Region.binds], by simp [Region.binds], by simp [Region.binds], by simp [Region.binds], by simp [Region.binds], by simp [Region.binds], by simp [Region.binds], by simp [Region.binds], by simp [Region.binds], by simp [Region.binds], by simp [Region.binds], trivial⟩
    intro i o e ho he hb
    have := allFrom_at h i o (by simpa using ho) e he hb
    omega
  case step =>
    have h : AllFrom (fun k p => p.guard = none ∧ ∀ L x u, I9 act W M S gE cE en ea ec ra rn rc L x u → L k = false → (∀ e ∈ p.after, Region.binds .any e = true → L e.on = true) → p.wp Try.prog x u (fun x' u' => I9 act W M S gE cE en ea ec ra rn rc (more L k) x' u') Q) 0 (opsOf Try.f3 9).toList := by
      refine ⟨⟨rfl, ?s0⟩, ⟨rfl, ?s1⟩, ⟨rfl, ?s2⟩, ⟨rfl, ?s3⟩, ⟨rfl, ?s4⟩, ⟨rfl, ?s5⟩, ⟨rfl, ?s6⟩, ⟨rfl, ?s7⟩, ⟨rfl, ?s8⟩, ⟨rfl, ?s9⟩, ⟨rfl, ?s10⟩, ⟨rfl, ?s11⟩, trivial⟩
      case s0 =>
        intro L x u hI hL hE
        have t1 := (hI.fr 1 (by decide) (by omega)).trans h1
        exact wp_val (v := V9 M S gE cE en ea ec ra rn rc 0) (by simp [execOp, Act.eval, t1, go_sem, V9]) (hI.put (by decide))
      case s1 =>
        intro L x u hI hL hE
        have t1 := hI.vs 0 (by decide) (hE ⟨0, .data⟩ (by simp) rfl)
        simp only [V9] at t1
        have c := (hI.mach hM).cells.1
        exact wp_val (v := V9 M S gE cE en ea ec ra rn rc 1) (by simp [execOp, Act.eval, t1, go_sem, V9, c]) (hI.put (by decide))
      case s2 =>
        intro L x u hI hL hE
        have t1 := (hI.fr 4 (by decide) (by omega)).trans h4
        exact wp_val (v := V9 M S gE cE en ea ec ra rn rc 2) (by simp [execOp, Act.eval, t1, go_sem, V9]) (hI.put (by decide))
      case s3 =>
        intro L x u hI hL hE
        have t1 := (hI.fr 1 (by decide) (by omega)).trans h1
        exact wp_val (v := V9 M S gE cE en ea ec ra rn rc 3) (by simp [execOp, Act.eval, t1, go_sem, V9]) (hI.put (by decide))
      case s4 =>
        intro L x u hI hL hE
        have t1 := hI.vs 3 (by decide) (hE ⟨3, .data⟩ (by simp) rfl)
        simp only [V9] at t1
        have c := (hI.mach hM).cells.2.1
        exact wp_val (v := V9 M S gE cE en ea ec ra rn rc 4) (by simp [execOp, Act.eval, t1, go_sem, V9, c]) (hI.put (by decide))
      case s5 =>
        intro L x u hI hL hE
        have t1 := hI.vs 4 (by decide) (hE ⟨4, .data⟩ (by simp) rfl)
        simp only [V9] at t1
        exact wp_val (v := V9 M S gE cE en ea ec ra rn rc 5) (by simp [Act.eval, t1, go_sem, V9]) (hI.put (by decide))
      case s6 =>
        intro L x u hI hL hE
        have t1 := hI.vs 2 (by decide) (hE ⟨2, .data⟩ (by simp) rfl)
        have t2 := hI.vs 5 (by decide) (hE ⟨5, .data⟩ (by simp) rfl)
        simp only [V9] at t1 t2
        have hc' : (en : Int) ≤ (cE : Int) := by omega
        exact wp_val (v := V9 M S gE cE en ea ec ra rn rc 6) (by simp [execOp, Act.eval, t1, t2, go_sem, V9, hc']) (hI.put (by decide))
      case s7 =>
        intro L x u hI hL hE
        have t1 := (hI.fr 1 (by decide) (by omega)).trans h1
        exact wp_val (v := V9 M S gE cE en ea ec ra rn rc 7) (by simp [execOp, Act.eval, t1, go_sem, V9]) (hI.put (by decide))
      case s8 =>
        intro L x u hI hL hE
        have t1 := hI.vs 7 (by decide) (hE ⟨7, .data⟩ (by simp) rfl)
        simp only [V9] at t1
        have c := (hI.mach hM).cells.2.2
        exact wp_val (v := V9 M S gE cE en ea ec ra rn rc 8) (by simp [execOp, Act.eval, t1, go_sem, V9, c]) (hI.put (by decide))
      case s9 =>
        intro L x u hI hL hE
        have t1 := hI.vs 1 (by decide) (hE ⟨1, .data⟩ (by simp) rfl)
        have t2 := hI.vs 6 (by decide) (hE ⟨6, .data⟩ (by simp) rfl)
        have t3 := hI.vs 8 (by decide) (hE ⟨8, .data⟩ (by simp) rfl)
        simp only [V9] at t1 t2 t3
        exact wp_val (v := V9 M S gE cE en ea ec ra rn rc 9) (by simp [execOp, Act.eval, t1, t2, t3, go_sem, V9]) (hI.put (by decide))
      case s10 =>
        intro L x u hI hL hE
        have e := hI.w0 hL
        subst e
        have hz := (zero_of_info infoM).1
        refine wp_val (v := .pointer (some ⟨W.heap.size, 0, none⟩)) (w' := W.drew.alloc (.cells #[.int .i64 0, .slice none 0 0, .slice none 0 0] 25)) (by simp [execOp, go_sem, hz]) ?_
        refine ⟨by simpa [Act.put] using hI.sz, hI.df, fun k h5 hk => (put_ne (fun e => h5 e.symm)).trans (hI.fr k h5 hk), fun j hj hL2 => (put_ne (by omega)).trans (hI.vs j hj (by unfold more at hL2; rw [if_neg (by omega)] at hL2; exact hL2)), fun h => absurd h (by simp [more]), fun _ => put_eq (by rw [hI.sz]; decide), fun _ _ => rfl, fun _ h => ?_, fun _ => by simp [more]⟩
        have h2 : L 11 = true := by simpa [more] using h
        rw [hI.ord h2] at hL
        cases hL
      case s11 =>
        intro L x u hI hL hE
        have l10 : L 10 = true := hE ⟨10, .data⟩ (by simp) rfl
        have t1 := hI.w1 l10
        have t2 := hI.vs 9 (by decide) (hE ⟨9, .data⟩ (by simp) rfl)
        simp only [V9] at t2
        have e := hI.w2 l10 hL
        subst e
        have hst := run_storeAt_new (P := Try.prog) W.drew 25 #[.int .i64 0, .slice none 0 0, .slice none 0 0] #[.int .i64 S, .slice (some ⟨gE, 0, none⟩) en cE, .slice ra rn rc] ((zero_of_info infoM).2) rfl (by simp [Value.oneCell'])
        have hst2 : (Instr.storeAt 25 (.pointer (some ⟨W.heap.size, 0, none⟩)) (.agg #[.int .i64 S, .slice (some ⟨gE, 0, none⟩) en cE, .slice ra rn rc])).run Try.prog (W.drew.alloc (.cells #[.int .i64 0, .slice none 0 0, .slice none 0 0] 25)) = _ := hst
        unfold Oper.wp
        have hr2 : ∀ o : Oper, o.op = Op.store 25 (.tmp 5) (.tmp 42) → (execOp x.eval o).run Try.prog (W.drew.alloc (.cells #[.int .i64 0, .slice none 0 0, .slice none 0 0] 25)) = .ok .skip (W.drew.alloc (.cells #[.int .i64 S, .slice (some ⟨gE, 0, none⟩) en cE, .slice ra rn rc] 25)) := fun o ho => by
          simp only [execOp, ho, Act.eval, Array.getD_eq_getD_getElem?, t1, t2, Option.getD_some, Sem.run_bind, hst2]
          rfl
        rw [hr2 _ rfl]
        refine ⟨hI.sz, hI.df, hI.fr, fun j hj hL2 => hI.vs j hj (by unfold more at hL2; rw [if_neg (by omega)] at hL2; exact hL2), fun h => ?_, fun _ => hI.w1 l10, fun _ h => absurd h (by simp [more]), fun _ _ => rfl, fun _ => ?_⟩
        · have : L 10 = false := by simpa [more] using h
          rw [this] at l10
          cases l10
        · simpa [more] using l10
    intro i o ho
    have := allFrom_at h i o (by simpa using ho)
    simpa using this
end Go.Proofs.Ytemmicnhnaafmaa
