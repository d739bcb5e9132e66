/- slices.Chunk over a list of at most 64 sets: one chunk, or none. -/
import Derived.RangeFuncNested
import Derived.RangeFuncBound
import Derived.RangeFuncCalls
import Derived.RangeFuncLeaves
import Derived.RangeFuncBox
import Derived.RangeFuncWrites
import Derived.Shelf.Abstract
import Derived.Shelf.RegionOpen
import Derived.OwnWalkIn
import Derived.TacticsInMore
import Derived.LoopNIn
import Derived.LoopIn
import Derived.Test.YtemmicnhnaafmaaG07
import Derived.Test.YtemmicnhnaafmaaG04
import Derived.Test.YtemmicnhnaafmaaG03
import Derived.Test.YtemmicnhnaafmaaG02
namespace Go.Proofs.Ytemmicnhnaafmaa
open Go.RowKit Go.Shelf
attribute [local go_sem] Oper.semAt_some

theorem chunk_any (a : Option Addr) (n cap : Nat) (w : World) : Calls Try.prog 22 #[.slice a n cap, .int .i64 64] w fun e w' => e = .returned (.func (.func 28) #[] #[.pointer (some ⟨w.heap.size, 0, none⟩), .pointer (some ⟨w.heap.size + 1, 0, none⟩)]) ∧ w' = (w.alloc (.cells #[.slice a n cap] 27)).alloc (.cells #[.int .i64 64] 3) := by
  go_enter Try.func22, Try.ntmps22
  go_wp2
  go_ret
  exact ⟨rfl, rfl⟩
abbrev encU (a : Option Addr) (n : Nat) (_ : Unit) : Array Value := #[.slice a n n]
def KpC (n₀ A1 A2 : Nat) (W W' : World) : Prop := Below n₀ W W' ∧ W'.heap[A1]? = W.heap[A1]? ∧ W'.heap[A2]? = W.heap[A2]?
theorem KpC.t {n₀ A1 A2 : Nat} {A B C : World} (h : KpC n₀ A1 A2 A B) (k : KpC n₀ A1 A2 B C) : KpC n₀ A1 A2 A C := ⟨h.1.trans k.1, k.2.1.trans h.2.1, k.2.2.trans h.2.2⟩
theorem KpC.b {n₀ A1 A2 : Nat} {w : World} (hn : n₀ ≤ w.heap.size) (h1 : A1 < w.heap.size) (h2 : A2 < w.heap.size) (W : World) (l : Nat) (o o' : Obj) (hl : w.heap.size ≤ l) (h : W.heap[l]? = some o) (hc : o.isCells = false) (hw : o.isWalk = false) : KpC n₀ A1 A2 W (W.putObj l o') :=
  ⟨belowK_b hn W l o o' hl h hc hw, World.putObj_heap_other (by omega), World.putObj_heap_other (by omega)⟩
set_option maxRecDepth 100000 in
set_option maxHeartbeats 4000000 in
theorem chunk1_in (nF : Nat) (hF : 1 ≤ nF) (l A1 A2 n cap n₀ b off : Nat) (hn : 0 < n) (hn2 : n ≤ 64) (hc : n ≤ cap) (J Jx : List Unit → World → Prop)
    (hY : ∀ pre x W1, J pre W1 → pre.length < 1 → YieldAt Fence.wide (nF - 1) Try.prog l (encU (some ⟨b, off, none⟩) n x) W1 fun e W' =>
      (e = .returned (.bool true) ∧ J (pre ++ [x]) W' ∧ KpC n₀ A1 A2 W1 W') ∨ (e = .returned (.bool false) ∧ Jx (pre ++ [x]) W'))
    (W : World) (h1 : W.cell? ⟨A1, 0, none⟩ = some (.slice (some ⟨b, off, none⟩) n cap)) (h2 : W.cell? ⟨A2, 0, none⟩ = some (.int .i64 64)) (hJ0 : J [] W) (hJd : ∀ pre W, J pre W → J pre W.drew) :
    CallsIn Fence.wide nF Try.prog 28 #[.func (.yield l) #[] #[], .pointer (some ⟨A1, 0, none⟩), .pointer (some ⟨A2, 0, none⟩)] W fun e W' => (∃ v, e = .returned v) ∧
      ((∃ ys, ys.length = 1 ∧ J ys W') ∨ (∃ pre, True ∧ Jx pre W')) := by
  have HC1 : Hid (W.cell? ⟨A1, 0, none⟩ = some (.slice (some ⟨b, off, none⟩) n cap)) := h1
  have HC2 : Hid (W.cell? ⟨A2, 0, none⟩ = some (.int .i64 64)) := h2
  have H0 : Hid (J [] W) := hJ0
  have HY : Hid (∀ pre x W1, J pre W1 → pre.length < 1 → YieldAt Fence.wide (nF - 1) Try.prog l (encU (some ⟨b, off, none⟩) n x) W1 fun e W' =>
      (e = .returned (.bool true) ∧ J (pre ++ [x]) W' ∧ KpC n₀ A1 A2 W1 W') ∨ (e = .returned (.bool false) ∧ Jx (pre ++ [x]) W')) := hY
  clear h1 h2 hJ0 hY
  refine callsIn_of_wp Try.func28 rfl trivial ?_ rfl
  simp only [Try.ntmps28, List.size_toArray, List.length_cons, List.length_nil, Nat.reduceAdd, Nat.reduceSub, Array.replicate_succ, Array.replicate_zero, List.push_toArray, List.append_toArray, List.nil_append, List.cons_append]
  gi_wp2
  gi_loopw [4] (fun i wr => ∃ k : Nat, i = .int .i64 (k : Nat) ∧ k ≤ 64 ∧ Hid (wr.cell? ⟨A1, 0, none⟩ = some (.slice (some ⟨b, off, none⟩) n cap)) ∧ Hid (wr.cell? ⟨A2, 0, none⟩ = some (.int .i64 64)) ∧ Hid ((k = 0 ∧ J [] wr) ∨ (k = 64 ∧ J [()] wr)))
    (fun i _ => 64 - (intOf i).toNat)
  case atStart => exact ⟨0, rfl, by omega, HC1, HC2, .inl ⟨rfl, H0.out⟩⟩
  case round =>
    obtain ⟨k, rfl, hk, hc1, hc2, hj⟩ := hrel
    have c1 := hc1.out
    have c2 := hc2.out
    rcases hj.out with ⟨rfl, hJ⟩ | ⟨rfl, hJ⟩
    · obtain ⟨fn, tmps, assign, body, hy, hR⟩ := HY.out [] () wr.drew (hJd _ _ hJ) (by simp)
      dsimp only [encU] at hy
      have hlt : (0 : Int) < (n : Int) := by omega
      have hi1 : (0 : Int) ≤ (cap : Int) := by omega
      have hi2 : (n : Int) ≤ (cap : Int) := by omega
      clear hj hJ
      by_cases h64 : n = 64
      · subst h64
        gi_wp2
        gi_region
        all_goals
          gi_wp2
          refine hR.mono ?_
          rintro e w3 (⟨rfl, hJ3, hk3⟩ | ⟨rfl, hJx3⟩)
          · have c13 : Hid (w3.cell? ⟨A1, 0, none⟩ = some (.slice (some ⟨b, off, none⟩) 64 cap)) := (World.cell?_of_block (a := ⟨A1, 0, none⟩) hk3.2.1).trans hc1.out
            have c23 : Hid (w3.cell? ⟨A2, 0, none⟩ = some (.int .i64 64)) := (World.cell?_of_block (a := ⟨A2, 0, none⟩) hk3.2.2).trans hc2.out
            have HJ3 : Hid (J [()] w3) := hJ3
            have c23' := c23.out
            clear hJ3 hk3 hy hR
            gi_wp2
            go_roundw
            case rel => exact ⟨64, rfl, by omega, c13, c23, .inr ⟨rfl, HJ3.out⟩⟩
            case measure => simp [intOf]
          · gi_wp2
            refine bodyPost_ret (results_none rfl _ _ _) rfl ?_
            exact ⟨⟨_, rfl⟩, .inr ⟨_, trivial, hJx3⟩⟩
      · have hl64 : (n : Int) < 64 := by omega
        have hmin : min (64 : Int) (n : Int) = (n : Int) := by omega
        gi_wp2
        gi_region
        all_goals
          gi_wp2
          refine hR.mono ?_
          rintro e w3 (⟨rfl, hJ3, hk3⟩ | ⟨rfl, hJx3⟩)
          · have c13 : Hid (w3.cell? ⟨A1, 0, none⟩ = some (.slice (some ⟨b, off, none⟩) n cap)) := (World.cell?_of_block (a := ⟨A1, 0, none⟩) hk3.2.1).trans hc1.out
            have c23 : Hid (w3.cell? ⟨A2, 0, none⟩ = some (.int .i64 64)) := (World.cell?_of_block (a := ⟨A2, 0, none⟩) hk3.2.2).trans hc2.out
            have HJ3 : Hid (J [()] w3) := hJ3
            have c23' := c23.out
            clear hJ3 hk3 hy hR
            gi_wp2
            go_roundw
            case rel => exact ⟨64, rfl, by omega, c13, c23, .inr ⟨rfl, HJ3.out⟩⟩
            case measure => simp [intOf]
          · gi_wp2
            refine bodyPost_ret (results_none rfl _ _ _) rfl ?_
            exact ⟨⟨_, rfl⟩, .inr ⟨_, trivial, hJx3⟩⟩
    · have hge : ¬ (64 : Int) < (n : Int) := by omega
      gi_wp2
      go_end0
      exact ⟨⟨_, rfl⟩, .inl ⟨[()], rfl, hJ⟩⟩
set_option maxRecDepth 100000 in
theorem chunk1_none (nF : Nat) (l A1 A2 cap : Nat) (a : Option Addr) (W : World) (h1 : W.cell? ⟨A1, 0, none⟩ = some (.slice a 0 cap)) (J Jx : List Unit → World → Prop) (hJ0 : J [] W) :
    CallsIn Fence.wide nF Try.prog 28 #[.func (.yield l) #[] #[], .pointer (some ⟨A1, 0, none⟩), .pointer (some ⟨A2, 0, none⟩)] W fun e W' => (∃ v, e = .returned v) ∧
      ((∃ ys, ys.length = 0 ∧ J ys W') ∨ (∃ pre, True ∧ Jx pre W')) := by
  refine callsIn_of_wp Try.func28 rfl trivial ?_ rfl
  simp only [Try.ntmps28, List.size_toArray, List.length_cons, List.length_nil, Nat.reduceAdd, Nat.reduceSub, Array.replicate_succ, Array.replicate_zero, List.push_toArray, List.append_toArray, List.nil_append, List.cons_append]
  have H0 : Hid (J [] W) := hJ0
  clear hJ0
  gi_wp2
  gi_loopw [4] (fun i wr => i = .int .i64 0 ∧ wr = W) (fun _ _ => 0)
  case atStart => exact ⟨rfl, rfl⟩
  case round =>
    obtain ⟨rfl, rfl⟩ := hrel
    gi_wp2
    go_end0
    exact ⟨⟨_, rfl⟩, .inl ⟨[], rfl, H0.out⟩⟩
/-- THE ITERATOR's CONTRACT. -/
theorem chunk_stops (nF : Nat) (hF : 1 ≤ nF) (A1 A2 n cap n₀ : Nat) (a : Option Addr) (w : World) (hn : n ≤ 64) (hc : n ≤ cap) (ha : n = 0 ∨ ∃ b off, a = some ⟨b, off, none⟩) (h1 : w.cell? ⟨A1, 0, none⟩ = some (.slice a n cap)) (h2 : w.cell? ⟨A2, 0, none⟩ = some (.int .i64 64)) :
    SeqStopsK Fence.wide nF Try.prog 28 #[.pointer (some ⟨A1, 0, none⟩), .pointer (some ⟨A2, 0, none⟩)] (encU a n) (KpC n₀ A1 A2) (fun xs => xs.length = if n = 0 then 0 else 1) (fun _ => True) 1 w := by
  intro l J Jx W hW hJ _ hY h0
  have lt1 : A1 < w.heap.size := by
    rcases Nat.lt_or_ge A1 w.heap.size with h | h
    · exact h
    · simp [World.cell?, h] at h1
  have lt2 : A2 < w.heap.size := by
    rcases Nat.lt_or_ge A2 w.heap.size with h | h
    · exact h
    · simp [World.cell?, h] at h2
  have c1 := (hW.cell (p := ⟨A1, 0, none⟩) lt1).trans h1
  have c2 := (hW.cell (p := ⟨A2, 0, none⟩) lt2).trans h2
  by_cases e : n = 0
  · subst e
    exact chunk1_none nF l A1 A2 cap a W c1 J Jx h0
  · rw [if_neg e]
    rcases ha with h | ⟨b, off, rfl⟩
    · exact absurd h e
    · exact chunk1_in nF hF l A1 A2 n cap n₀ b off (by omega) hn hc J Jx hY W c1 c2 h0 (fun pre U hU => hJ pre U _ none hU ⟨rfl, rfl, rfl, Nat.le_refl _, fun _ _ _ => rfl⟩ (fun r e => by cases e))
end Go.Proofs.Ytemmicnhnaafmaa

/- A drawn region, by an invariant that knows which operations have come up; the last region of part.Classes. -/
namespace Go.Proofs.Ytemmicnhnaafmaa
open Go Go.RowKit

section
variable {P : Program} {ops : Array Oper} {Q : Exit → Act → World → Prop}
theorem wpAny_inv (Inv : (Nat → Bool) → Act → World → Prop)
    (hwf : ∀ i o e, ops[i]? = some o → e ∈ o.after → Region.binds .any e = true → e.on < i)
    (hstep : ∀ i o, ops[i]? = some o → o.guard = none ∧ ∀ L a w, Inv L a w → L i = false → (∀ e ∈ o.after, Region.binds .any e = true → L e.on = true) → o.wp P a w (fun a' w' => Inv (more L i) a' w') Q)
    (hend : ∀ L a w, (∀ i, i < ops.size → L i = true) → Inv L a w → Q .normal a w) :
    ∀ (fuel : Nat) (listed : Array Bool) (a : Act) (w : World), listed.size = ops.size → left ops listed ≤ fuel → Inv (fun i => listed.getD i true) a w → wpAny P .any ops Q fuel listed a w := by
  intro fuel
  induction fuel with
  | zero =>
    intro listed a w hsz hl hf
    have hall := left_zero (Nat.le_zero.1 hl)
    refine ⟨?_, hend _ a w (fun i hi => hall i hi) hf⟩
    apply List.eq_nil_iff_forall_not_mem.2
    intro i hi
    obtain ⟨h0, o, ho, _⟩ := mem_ready.1 hi
    have hlt := (Array.getElem?_eq_some_iff.1 ho).1
    rw [hall i hlt] at h0
    cases h0
  | succ fuel ih =>
    intro listed a w hsz hl hf
    refine ⟨fun h => hend _ a w (fun i hi => all_of_ready hwf hsz h i hi) hf, fun i hi => ?_⟩
    obtain ⟨h0, o, ho, hafter⟩ := mem_ready.1 hi
    have hlt := (Array.getElem?_eq_some_iff.1 ho).1
    obtain ⟨hg, hs⟩ := hstep i o ho
    have hw := hs _ a w hf h0 (fun e he hb => by
      have h4 := hafter e he hb
      have h5 := hwf i o e ho he hb
      have hs : e.on < listed.size := by omega
      simp [hs] at h4 ⊢
      exact h4)
    unfold wpOp
    simp only [ho, wanted_free hg, if_true]
    refine .inl (Oper.wp_mono (fun a' w' h => ?_) hw)
    refine ih _ a' w' (by simpa using hsz) (by have := left_set hlt h0 hsz; omega) ?_
    have e : (fun j => (listed.setIfInBounds i true).getD j true) = more (fun j => listed.getD j true) i := by
      funext j
      unfold more
      by_cases e : j = i
      · subst e
        have hjs : j < listed.size := by omega
        simp [hjs]
      · rw [getD_set_ne true (Ne.symm e)]
        simp [e]
    rw [e]
    exact h
theorem wp_region_inv {id : Nat} {a : Act} {w : World} (hm : P.follows .mixedOrders = true) (Inv : (Nat → Bool) → Act → World → Prop)
    (hwf : ∀ i o e, ops[i]? = some o → e ∈ o.after → Region.binds .any e = true → e.on < i)
    (hstep : ∀ i o, ops[i]? = some o → o.guard = none ∧ ∀ L a w, Inv L a w → L i = false → (∀ e ∈ o.after, Region.binds .any e = true → L e.on = true) → o.wp P a w (fun a' w' => Inv (more L i) a' w') Q)
    (hend : ∀ L a w, (∀ i, i < ops.size → L i = true) → Inv L a w → Q .normal a w)
    (h0 : ∀ L, (∀ i, i < ops.size → L i = false) → Inv L a w.drew) : (Code.region id ops true).wp P Q a w := by
  refine wp_region_any hm (wpAny_inv Inv hwf hstep hend ops.size _ a _ (by simp) ?_ (h0 _ (fun i hi => by simp [hi])))
  unfold left
  have := List.length_filter_le (fun i => !(Array.replicate ops.size false).getD i true) (List.range ops.size)
  simpa using this
end
theorem wp_load_arr {o : Oper} {a : Act} {w : World} {K : Act → World → Prop} {Q : Exit → Act → World → Prop} (x : Operand) (ho : o.op = .load 38 x) {A : Nat} {f : Nat → Int} (h : AB w A f) (hx : a.eval x = .pointer (some ⟨A, 0, none⟩)) (hk : K (a.put o.dst (.agg (cv f))) w) : o.wp Try.prog a w K Q :=
  wp_load_row _ x ho A hx _ _ (0, 0) _ h underArr rfl (by rw [cv_size]; exact sizeArr) hk
theorem wp_store_arr {o : Oper} {a : Act} {w : World} {K : Act → World → Prop} {Q : Exit → Act → World → Prop} (x y : Operand) (ho : o.op = .store 38 x y) {A : Nat} {f g : Nat → Int} (h : AB w A f) (hx : a.eval x = .pointer (some ⟨A, 0, none⟩)) (hy : a.eval y = .agg (cv g)) (hk : K (a.put o.dst undef) (w.setRow A (cv g))) : o.wp Try.prog a w K Q :=
  wp_store_row _ x y ho A (cv g) hx hy _ _ h (by rw [cv_size]; exact sizeArr) (by rw [cv_size, cv_size]) (cv_one g) hk
theorem eval_tmp {a : Act} {k : Nat} {v : Value} (h : a.tmps[k]? = some v) : a.eval (.tmp k) = v := by simp [Act.eval, h]
set_option maxRecDepth 20000 in
theorem wp_load_i {o : Oper} {a : Act} {w : World} {K : Act → World → Prop} {Q : Exit → Act → World → Prop} {p : Nat} {ad : Addr} {v : Int} (ho : o.op = .load 3 (.tmp p)) (hx : a.tmps[p]? = some (.pointer (some ad))) (hc : w.cell? ad = some (.int .i64 v)) (hk : K (a.put o.dst (.int .i64 v)) w) : o.wp Try.prog a w K Q := by
  have h : (execOp a.eval o).run Try.prog w = .ok (.value (.int .i64 v)) w := by simp [execOp, ho, Act.eval, hx, go_sem, hc]
  unfold Oper.wp
  rw [h]
  exact hk
theorem wp_assign_t {o : Oper} {a : Act} {w : World} {K : Act → World → Prop} {Q : Exit → Act → World → Prop} {p : Nat} {v : Value} (ho : o.op = .assign (.tmp p)) (hx : a.eval (.tmp p) = v) (hk : K (a.put o.dst v) w) : o.wp Try.prog a w K Q := by
  have h : (execOp a.eval o).run Try.prog w = .ok (.value v) w := by simp [execOp, ho, hx]
  unfold Oper.wp
  rw [h]
  exact hk
structure In6 (act : Act) (W : World) (M : Nat) (f : Nat → Int) (v : Int) (L : Nat → Bool) (x : Act) (u : World) : Prop where
  sz : x.tmps.size = 18
  df : x.defers = act.defers
  s2 : x.tmps[2]? = some (.pointer (some ⟨M, 0, none⟩))
  s4 : x.tmps[4]? = some (.pointer (some ⟨M + 1, 0, none⟩))
  s5 : x.tmps[5]? = some (.pointer (some ⟨M + 2, 0, none⟩))
  s16 : L 0 = true → x.tmps[16]? = some (.agg (cv f))
  s17 : L 1 = true → x.tmps[17]? = some (.int .i64 v)
  s3 : L 3 = true → x.tmps[3]? = some (.int .i64 v)
  w1 : L 2 = true → u = W.drew.setRow M (cv f)
  w0 : L 2 = false → u = W.drew
theorem put_ne {x : Act} {i k : Nat} {v : Value} (h : i ≠ k) : (x.put (some i) v).tmps[k]? = x.tmps[k]? := by simp [Act.put, h]
theorem put_eq {x : Act} {i : Nat} {v : Value} (h : i < x.tmps.size) : (x.put (some i) v).tmps[i]? = some v := by simp [Act.put, h]
set_option maxRecDepth 100000 in
set_option maxHeartbeats 1000000 in
theorem reg6 {act : Act} {W : World} {M : Nat} {f f0 : Nat → Int} {v : Int} {Q : Exit → Act → World → Prop} (hs : act.tmps.size = 18) (h2 : act.tmps[2]? = some (.pointer (some ⟨M, 0, none⟩))) (h4 : act.tmps[4]? = some (.pointer (some ⟨M + 1, 0, none⟩))) (h5 : act.tmps[5]? = some (.pointer (some ⟨M + 2, 0, none⟩)))
    (hR : AB W M f0) (hA : AB W (M + 1) f) (hN : W.heap[M + 2]? = some (.cells #[.int .i64 v] 3 (0, 0)))
    (K : ∀ x, x.defers = act.defers → x.tmps[2]? = some (.pointer (some ⟨M, 0, none⟩)) → x.tmps[3]? = some (.int .i64 v) → Q .normal x (W.drew.setRow M (cv f))) : (Code.region 6 (opsOf Try.f13 6) true).wp Try.prog Q act W := by
  have hA1 : AB W.drew (M + 1) f := hA
  have hR1 : AB W.drew M f0 := hR
  have hN1 : W.drew.heap[M + 2]? = some (.cells #[.int .i64 v] 3 (0, 0)) := hN
  refine wp_region_inv (by kernel_rfl) (In6 act W M f v) ?wf ?step ?fin ?zero
  case zero =>
    intro L hL
    refine ⟨hs, rfl, h2, h4, h5, fun h => absurd h ?_, fun h => absurd h ?_, fun h => absurd h ?_, fun h => absurd h ?_, fun _ => rfl⟩
    · rw [hL 0 (by decide)]; decide
    · rw [hL 1 (by decide)]; decide
    · rw [hL 3 (by decide)]; decide
    · rw [hL 2 (by decide)]; decide
  case fin =>
    intro L x u hL hI
    have e := hI.w1 (hL 2 (by decide))
    subst e
    exact K x hI.df hI.s2 (hI.s3 (hL 3 (by decide)))
  case wf =>
    have h : AllFrom (fun i o => ∀ e ∈ o.after, Region.binds .any e = true → e.on < i) 0 (opsOf Try.f13 6).toList := by
      refine ⟨by simp [Region.binds], by simp [Region.binds], by simp [Region.binds], by simp [Region.binds], trivial⟩
    intro i o e ho he hb
    have := allFrom_at h i o (by simpa using ho) e he hb
    omega
  case step =>
    have h : AllFrom (fun k p => p.guard = none ∧ ∀ L x u, In6 act W M f v L x u → L k = false → (∀ e ∈ p.after, Region.binds .any e = true → L e.on = true) → p.wp Try.prog x u (fun x' u' => In6 act W M f v (more L k) x' u') Q) 0 (opsOf Try.f13 6).toList := by
      refine ⟨⟨rfl, ?s0⟩, ⟨rfl, ?s1⟩, ⟨rfl, ?s2⟩, ⟨rfl, ?s3⟩, trivial⟩
      case s0 =>
        intro L x u hI hL hE
        have hu : AB u (M + 1) f := by
          cases h : L 2
          · rw [hI.w0 h]; exact hA1
          · rw [hI.w1 h]; exact hA1.same (heap_row _ _ _ _ (by omega))
        refine wp_load_arr (.tmp 4) rfl hu (eval_tmp hI.s4) ?_
        exact ⟨by simpa [Act.put] using hI.sz, hI.df, (put_ne (by decide)).trans hI.s2, (put_ne (by decide)).trans hI.s4, (put_ne (by decide)).trans hI.s5, fun _ => put_eq (by rw [hI.sz]; decide), fun h => (put_ne (by decide)).trans (hI.s17 h), fun h => (put_ne (by decide)).trans (hI.s3 h), hI.w1, hI.w0⟩
      case s1 =>
        intro L x u hI hL hE
        have hu : u.cell? ⟨M + 2, 0, none⟩ = some (.int .i64 v) := by
          cases h : L 2
          · rw [hI.w0 h]; simp [World.cell?, hN1]
          · rw [hI.w1 h]; simp [World.cell?, heap_row W.drew M (M + 2) (cv f) (by omega), hN1]
        refine wp_load_i rfl hI.s5 hu ?_
        exact ⟨by simpa [Act.put] using hI.sz, hI.df, (put_ne (by decide)).trans hI.s2, (put_ne (by decide)).trans hI.s4, (put_ne (by decide)).trans hI.s5, fun h => (put_ne (by decide)).trans (hI.s16 h), fun _ => put_eq (by rw [hI.sz]; decide), fun h => (put_ne (by decide)).trans (hI.s3 h), hI.w1, hI.w0⟩
      case s2 =>
        intro L x u hI hL hE
        have h0 : L 0 = true := hE ⟨0, .data⟩ (by simp) rfl
        have hu := hI.w0 hL
        subst hu
        refine wp_store_arr (.tmp 2) (.tmp 16) rfl hR1 (eval_tmp hI.s2) (eval_tmp (hI.s16 h0)) ?_
        exact ⟨hI.sz, hI.df, hI.s2, hI.s4, hI.s5, hI.s16, hI.s17, hI.s3, fun _ => rfl, fun h => absurd h (by simp [more])⟩
      case s3 =>
        intro L x u hI hL hE
        have h1 : L 1 = true := hE ⟨1, .data⟩ (by simp) rfl
        refine wp_assign_t rfl (eval_tmp (hI.s17 h1)) ?_
        exact ⟨by simpa [Act.put] using hI.sz, hI.df, (put_ne (by decide)).trans hI.s2, (put_ne (by decide)).trans hI.s4, (put_ne (by decide)).trans hI.s5, fun h => (put_ne (by decide)).trans (hI.s16 h), fun h => (put_ne (by decide)).trans (hI.s17 h), fun _ => put_eq (by rw [hI.sz]; decide), hI.w1, hI.w0⟩
    intro i o ho
    have := allFrom_at h i o (by simpa using ho)
    simpa using this
end Go.Proofs.Ytemmicnhnaafmaa

/- part.Members and the document's. -/
namespace Go.Proofs.Ytemmicnhnaafmaa
open Go.RowKit

def bsOf (f : Nat → Int) (c : Int) (k : Nat) : List Nat := (List.range k).filter fun i => decide (f i = c)
theorem bsOf_succ (f : Nat → Int) (c : Int) (k : Nat) : bsOf f c (k + 1) = bsOf f c k ++ (if f k = c then [k] else []) := by
  unfold bsOf
  rw [List.range_succ, List.filter_append]
  by_cases h : f k = c <;> simp [h]
theorem bsOf_lt {f : Nat → Int} {c : Int} {k b : Nat} (h : b ∈ bsOf f c k) : b < k := by
  have := (List.mem_filter.1 h).1
  simpa using this
theorem bsOf_len (f : Nat → Int) (c : Int) (k : Nat) : (bsOf f c k).length ≤ k := by
  have := List.length_filter_le (fun i => decide (f i = c)) (List.range k)
  simpa [bsOf] using this
theorem bsOf_has (f : Nat → Int) (c : Int) (b : Nat) : Oct.has (bsOf f c 256) b = Pt.memb f c b := by
  rw [Bool.eq_iff_iff]
  simp [Oct.has, bsOf, Pt.memb]
theorem ints_snoc (bs : List Nat) (b : Nat) : ints (bs ++ [b]) = ints bs ++ [(b : Int)] := by simp [ints]
set_option maxRecDepth 20000 in
set_option maxHeartbeats 2000000 in
theorem members_any (f : Nat → Int) (c : Int) (w : World) : Calls Try.prog 15 #[.agg (cv f), .int .i64 c] w fun e w' => e = .returned (setV (Pt.memb f c)) ∧ Below w.heap.size w w' := by
  obtain ⟨w0, hw0⟩ : ∃ w0, (w.alloc (.cells (cv f) 38)).alloc (.cells #[.int .u64 0, .int .u64 0, .int .u64 0, .int .u64 0] 31) = w0 := ⟨_, rfl⟩
  have k1 : Below w.heap.size w (w.alloc (.cells (cv f) 38)) := (Below.refl _ _).alloc (Nat.le_refl _) _
  have k2 := k1.alloc k1.size (.cells #[.int .u64 0, .int .u64 0, .int .u64 0, .int .u64 0] 31)
  have a0 := (ab_new w f).later (w' := (w.alloc (.cells (cv f) 38)).alloc (.cells #[.int .u64 0, .int .u64 0, .int .u64 0, .int .u64 0] 31)) ((Below.refl _ _).alloc (Nat.le_refl _) _)
  have a1 := sb_zero (w.alloc (.cells (cv f) 38))
  rw [hw0] at k2 a0 a1
  have hs0 : w0.heap.size = w.heap.size + 2 := by rw [← hw0]; simp
  have HA0 : Hid (AB w0 w.heap.size f) := a0
  have HA1 : Hid (SB w0 (w.heap.size + 1) Oct.none) := by show SB _ _ _; simpa using a1
  have HK2 : Hid (Below w.heap.size w w0) := k2
  have HW0 : Hid ((w.alloc (.cells (cv f) 38)).alloc (.cells #[.int .u64 0, .int .u64 0, .int .u64 0, .int .u64 0] 31) = w0) := hw0
  have HS0 : Hid (w0.heap.size = w.heap.size + 2) := hs0
  clear k1 k2 a0 a1 hw0 hs0
  go_enter Try.func15, Try.ntmps15
  go_upto_region 2 with fail
  rw [HW0.out]
  go_wp2_with (refine wpList_load_arr rfl (.tmp 2) rfl HA0.out rfl ?_)
  go_loopw [5, 9] (fun v i u => ∃ (k : Nat) (vv : Value), vv = v ∧ k ≤ 256 ∧ i = .int .i64 (k : Nat) ∧ Hid (OwnsN u w0.heap.size vv (ints (bsOf f c k))) ∧ Hid (Below w0.heap.size w0 u)) (fun _ i _ => 256 - (intOf i).toNat)
  case atStart => exact ⟨0, _, rfl, by omega, rfl, ownsN_nil _ _, Below.refl _ _⟩
  case round =>
    obtain ⟨k, vv, rfl, hk, rfl, HO, HB⟩ := hrel
    clear HW0 HA0
    by_cases hlt : k < 256
    · have hlt' : (k : Int) < 256 := by omega
      have hidx := AB.index f hlt
      have hwk : IntKind.u8.wrap (k : Int) = (k : Int) := by rw [IntKind.wrap_u8]; omega
      have HSU := bsOf_succ f c k
      have HLE := bsOf_len f c k
      have HSX : Hid (bsOf f c (k + 1) = bsOf f c k ++ (if f k = c then [k] else [])) := HSU
      have HLX : Hid ((ints (bsOf f c k)).length ≤ 256) := by show _ ≤ _; rw [ints_length]; omega
      clear HSU HLE
      obtain ⟨y, hy⟩ : ∃ y, y = f k := ⟨_, rfl⟩
      rw [← hy] at hidx HSX
      clear hy
      by_cases he : y = c
      · subst he
        have HSY : Hid (ints (bsOf f y (k + 1)) = ints (bsOf f y k) ++ [(k : Int)]) := by
          show _ = _
          rw [HSX.out, if_pos rfl, ints_snoc]
        clear HSX
        have kk : Below wr.heap.size wr (wr.alloc (.cells #[.int .u8 (k : Nat)] 5)) := (Below.refl _ _).alloc (Nat.le_refl _) _
        have HO1 : Hid (OwnsN (wr.alloc (.cells #[.int .u8 (k : Nat)] 5)) w0.heap.size vv (ints (bsOf f y k))) := HO.out.later kk
        have HB1 : Hid (Below w0.heap.size w0 (wr.alloc (.cells #[.int .u8 (k : Nat)] 5))) := HB.out.alloc HB.out.size _
        have HBI : Hid (BytesI (wr.alloc (.cells #[.int .u8 (k : Nat)] 5)) (some ⟨wr.heap.size, 0, none⟩) [(k : Int)]) := by
          have h := bytesI_of (bytesAt_new wr [k] 5 (0, 0))
          exact h
        clear kk HO HB
        go_wp2_with (at_builtin; go_must (refine wpList_append_bytesN rfl _ _ rfl w0 _ (ints (bsOf f y k)) rfl HO1.out HB1.out (some ⟨wr.heap.size, 0, none⟩) 1 1 [(k : Int)] rfl rfl HBI.out (by have := HLX.out; simp; omega) ?_; intro v4 w4 ho4 hb4; have HO4 : Hid (OwnsN w4 w0.heap.size v4 (ints (bsOf f y k) ++ [(k : Int)])) := ho4; have HB4 : Hid (Below w0.heap.size w0 w4) := hb4; clear ho4 hb4))
        go_roundw
        case rel => exact ⟨k + 1, v4, rfl, by omega, by go_num, by rw [HSY.out]; exact HO4, HB4⟩
        case measure => simp [intOf]; omega
      · have HSY : Hid (ints (bsOf f c (k + 1)) = ints (bsOf f c k)) := by
          show _ = _
          rw [HSX.out, if_neg he, List.append_nil]
        clear HSX
        have he' : (y == c) = false := by simp [he]
        go_wp2
        go_roundw
        case rel => exact ⟨k + 1, vv, rfl, by omega, by go_num, by rw [HSY.out]; exact HO, HB⟩
        case measure => simp [intOf]; omega
    · have hge : ¬ (k : Int) < 256 := by omega
      obtain rfl : k = 256 := by omega
      obtain ⟨a, cap, e, hbi, hcap, hmx, _, _⟩ := HO.out.form
      subst e
      rw [ints_length]
      have HBA : Hid (BytesAt wr a (bsOf f c 256)) := bytesAt_of hbi
      have hlen := bsOf_len f c 256
      obtain ⟨n, hn⟩ : ∃ n, n = (bsOf f c 256).length := ⟨_, rfl⟩
      rw [← hn] at hlen ⊢
      have HN : Hid (n = (bsOf f c 256).length) := hn
      have HR : Hid (SB wr (w.heap.size + 1) Oct.none) := (HB.out.block _ HA1.out.lt).trans HA1.out
      have HL : Hid (Below w.heap.size w wr) := HK2.out.trans (HB.out.mono (by rw [HS0.out]; omega))
      clear hn hbi hcap hmx HO HB
      go_wp2_with fail
      refine (of_any a n cap (bsOf f c 256) wr HN.out (by simp only [maxLen]; omega) HBA.out (fun b hb => bsOf_lt hb)).mono ?_
      rintro e w3 ⟨rfl, hb3⟩
      have HR3 := HR.out.later hb3
      have HRR : Hid (SB w3 (w.heap.size + 1) Oct.none) := HR3
      obtain ⟨c0, c1, c2, c3⟩ := HR3.cells
      have f0 := HR3.frozen 0
      have f1 := HR3.frozen 1
      have f2 := HR3.frozen 2
      have f3 := HR3.frozen 3
      have HL3 : Hid (Below w.heap.size w w3) := below_trans HL.out hb3 HL.out.size
      clear hb3 HR3
      unfold setV
      go_wp2
      exact post_set Try.f15 4 rfl rfl rfl (HRR.out.put4 (Oct.has (bsOf f c 256))) ⟨by rw [setV_congr (fun b _ => bsOf_has f c b)], below_put4 HL3.out (by omega) _⟩
set_option maxRecDepth 20000 in
set_option maxHeartbeats 2000000 in
theorem rmembers_any (f : Nat → Int) (c : Int) (w : World) : Calls Try.prog 20 #[.agg (cv f), .int .i64 c] w fun e w' => e = .returned (setV (Pt.memb f c)) ∧ Below w.heap.size w w' := by
  obtain ⟨w0, hw0⟩ : ∃ w0, (w.alloc (.cells (cv f) 38)).alloc (.cells #[.int .u64 0, .int .u64 0, .int .u64 0, .int .u64 0] 31) = w0 := ⟨_, rfl⟩
  have k1 : Below w.heap.size w (w.alloc (.cells (cv f) 38)) := (Below.refl _ _).alloc (Nat.le_refl _) _
  have k2 := k1.alloc k1.size (.cells #[.int .u64 0, .int .u64 0, .int .u64 0, .int .u64 0] 31)
  have a0 := (ab_new w f).later (w' := (w.alloc (.cells (cv f) 38)).alloc (.cells #[.int .u64 0, .int .u64 0, .int .u64 0, .int .u64 0] 31)) ((Below.refl _ _).alloc (Nat.le_refl _) _)
  have a1 := sb_zero (w.alloc (.cells (cv f) 38))
  rw [hw0] at k2 a0 a1
  have hs0 : w0.heap.size = w.heap.size + 2 := by rw [← hw0]; simp
  have HA0 : Hid (AB w0 w.heap.size f) := a0
  have HA1 : Hid (SB w0 (w.heap.size + 1) Oct.none) := by show SB _ _ _; simpa using a1
  have HK2 : Hid (Below w.heap.size w w0) := k2
  have HW0 : Hid ((w.alloc (.cells (cv f) 38)).alloc (.cells #[.int .u64 0, .int .u64 0, .int .u64 0, .int .u64 0] 31) = w0) := hw0
  have HS0 : Hid (w0.heap.size = w.heap.size + 2) := hs0
  clear k1 k2 a0 a1 hw0 hs0
  go_enter Try.func20, Try.ntmps20
  go_upto_region 3 with fail
  rw [HW0.out]
  go_wp2_with fail
  go_loopw [5, 6] (fun v i u => ∃ (k : Nat) (vv : Value), vv = v ∧ k ≤ 256 ∧ i = .int .i64 (k : Nat) ∧ Hid (OwnsN u w0.heap.size vv (ints (bsOf f c k))) ∧ Hid (Below w0.heap.size w0 u)) (fun _ i _ => 256 - (intOf i).toNat)
  case atStart => exact ⟨0, _, rfl, by omega, rfl, ownsN_nil _ _, Below.refl _ _⟩
  case round =>
    obtain ⟨k, vv, rfl, hk, rfl, HO, HB⟩ := hrel
    clear HW0
    have HAK : Hid (AB wr w.heap.size f) := HA0.out.same (HB.out.block _ HA0.out.lt)
    clear HA0
    by_cases hlt : k < 256
    · have hlt' : (k : Int) < 256 := by omega
      have hidx := (HAK.out.cell hlt).1
      have hwk : IntKind.u8.wrap (k : Int) = (k : Int) := by rw [IntKind.wrap_u8]; omega
      have HSU := bsOf_succ f c k
      have HLE := bsOf_len f c k
      have HSX : Hid (bsOf f c (k + 1) = bsOf f c k ++ (if f k = c then [k] else [])) := HSU
      have HLX : Hid ((ints (bsOf f c k)).length ≤ 256) := by show _ ≤ _; rw [ints_length]; omega
      clear HSU HLE
      obtain ⟨y, hy⟩ : ∃ y, y = f k := ⟨_, rfl⟩
      rw [← hy] at hidx HSX
      clear hy
      by_cases he : y = c
      · subst he
        have HSY : Hid (ints (bsOf f y (k + 1)) = ints (bsOf f y k) ++ [(k : Int)]) := by
          show _ = _
          rw [HSX.out, if_pos rfl, ints_snoc]
        clear HSX
        have kk : Below wr.heap.size wr (wr.alloc (.cells #[.int .u8 (k : Nat)] 5)) := (Below.refl _ _).alloc (Nat.le_refl _) _
        have HO1 : Hid (OwnsN (wr.alloc (.cells #[.int .u8 (k : Nat)] 5)) w0.heap.size vv (ints (bsOf f y k))) := HO.out.later kk
        have HB1 : Hid (Below w0.heap.size w0 (wr.alloc (.cells #[.int .u8 (k : Nat)] 5))) := HB.out.alloc HB.out.size _
        have HBI : Hid (BytesI (wr.alloc (.cells #[.int .u8 (k : Nat)] 5)) (some ⟨wr.heap.size, 0, none⟩) [(k : Int)]) := by
          have h := bytesI_of (bytesAt_new wr [k] 5 (0, 0))
          exact h
        clear kk HO HB
        go_wp2_with (at_builtin; go_must (refine wpList_append_bytesN rfl _ _ rfl w0 _ (ints (bsOf f y k)) rfl HO1.out HB1.out (some ⟨wr.heap.size, 0, none⟩) 1 1 [(k : Int)] rfl rfl HBI.out (by have := HLX.out; simp; omega) ?_; intro v4 w4 ho4 hb4; have HO4 : Hid (OwnsN w4 w0.heap.size v4 (ints (bsOf f y k) ++ [(k : Int)])) := ho4; have HB4 : Hid (Below w0.heap.size w0 w4) := hb4; clear ho4 hb4))
        go_roundw
        case rel => exact ⟨k + 1, v4, rfl, by omega, by go_num, by rw [HSY.out]; exact HO4, HB4⟩
        case measure => simp [intOf]; omega
      · have HSY : Hid (ints (bsOf f c (k + 1)) = ints (bsOf f c k)) := by
          show _ = _
          rw [HSX.out, if_neg he, List.append_nil]
        clear HSX
        have he' : (y == c) = false := by simp [he]
        go_wp2
        go_roundw
        case rel => exact ⟨k + 1, vv, rfl, by omega, by go_num, by rw [HSY.out]; exact HO, HB⟩
        case measure => simp [intOf]; omega
    · have hge : ¬ (k : Int) < 256 := by omega
      obtain rfl : k = 256 := by omega
      obtain ⟨a, cap, e, hbi, hcap, hmx, _, _⟩ := HO.out.form
      subst e
      rw [ints_length]
      have HBA : Hid (BytesAt wr a (bsOf f c 256)) := bytesAt_of hbi
      have hlen := bsOf_len f c 256
      obtain ⟨n, hn⟩ : ∃ n, n = (bsOf f c 256).length := ⟨_, rfl⟩
      rw [← hn] at hlen ⊢
      have HN : Hid (n = (bsOf f c 256).length) := hn
      have HR : Hid (SB wr (w.heap.size + 1) Oct.none) := (HB.out.block _ HA1.out.lt).trans HA1.out
      have HL : Hid (Below w.heap.size w wr) := HK2.out.trans (HB.out.mono (by rw [HS0.out]; omega))
      clear hn hbi hcap hmx HO HB
      go_wp2_with fail
      refine (rof_any a n cap (bsOf f c 256) wr HN.out (by simp only [maxLen]; omega) HBA.out (fun b hb => bsOf_lt hb)).mono ?_
      rintro e w3 ⟨rfl, hb3⟩
      have HR3 := HR.out.later hb3
      have HRR : Hid (SB w3 (w.heap.size + 1) Oct.none) := HR3
      obtain ⟨c0, c1, c2, c3⟩ := HR3.cells
      have f0 := HR3.frozen 0
      have f1 := HR3.frozen 1
      have f2 := HR3.frozen 2
      have f3 := HR3.frozen 3
      have HL3 : Hid (Below w.heap.size w w3) := below_trans HL.out hb3 HL.out.size
      clear hb3 HR3
      unfold setV
      go_wp2
      exact post_set Try.f20 4 rfl rfl rfl (HRR.out.put4 (Oct.has (bsOf f c 256))) ⟨by rw [setV_congr (fun b _ => bsOf_has f c b)], below_put4 HL3.out (by omega) _⟩
end Go.Proofs.Ytemmicnhnaafmaa

/- Contracts of the document's Count, Meet, Not and Span of layer 3: by walking their bodies. -/
namespace Go.Proofs.Ytemmicnhnaafmaa
open Go.RowKit

set_option maxRecDepth 4000 in
set_option maxHeartbeats 1000000 in
theorem rspan_any (f t : Nat) (w : World) :
    Calls Try.prog 21 #[.int .i64 f, .int .i64 t] w fun e w' => e = .returned (setV (Oct.span f t)) ∧ Below w.heap.size w w' := by
  have H0 := start2_hid w
  go_enter Try.func21, Try.ntmps21
  go_wp2
  go_loopw [6] (fun i u => ∃ k : Nat, k ≤ 256 ∧ i = .int .i64 k ∧ Hid (St w u w.heap.size (w.heap.size + 1) (Oct.below k (Oct.span f t)))) (fun i _ => 256 - (intOf i).toNat)
  case atStart => exact ⟨0, Nat.zero_le _, rfl, by rw [Oct.below_zero]; exact H0⟩
  case round =>
    clear H0
    obtain ⟨k, hk, rfl, hs⟩ := hrel
    obtain ⟨x, hx⟩ : ∃ x, x = Oct.below k (Oct.span f t) := ⟨_, rfl⟩
    have HX : Hid (x = Oct.below k (Oct.span f t)) := hx
    rw [← hx] at hs
    clear hx
    obtain ⟨⟨c0, c1, c2, c3⟩, ⟨f0, f1, f2, f3⟩, ⟨d0, d1, d2, d3⟩, ⟨g0, g1, g2, g3⟩⟩ := hs.out.facts
    by_cases hlt : k < 256
    · by_cases hin : f ≤ k ∧ k ≤ t
      · obtain ⟨h1, h2⟩ := hin
        have HT : Hid (Oct.span f t k = true) := by show Oct.span f t k = true; simp [Oct.span, h1, h2]
        go_wp2_with fail
        refine (rwith_any x k _ hlt).mono ?_
        rintro e w5 ⟨rfl, hb5⟩
        have HS5 : Hid (St w w5 w.heap.size (w.heap.size + 1) x) := hs.out.later hb5
        clear hs hb5 c0 c1 c2 c3 f0 f1 f2 f3 d0 d1 d2 d3 g0 g1 g2 g3
        obtain ⟨⟨c0, c1, c2, c3⟩, ⟨f0, f1, f2, f3⟩, _, _⟩ := HS5.out.facts
        unfold setV
        go_wp2
        go_roundw
        case rel => exact ⟨k + 1, by omega, by go_num, (HS5.out.put (by omega) (by omega) (Oct.ins x k)).as (fun c _ => by rw [HX.out]; exact Oct.below_yes k _ HT.out c)⟩
        case measure => simp [intOf]; omega
      · have HT : Hid (Oct.span f t k = false) := by
          show Oct.span f t k = false
          simp only [Oct.span, Bool.and_eq_false_iff, decide_eq_false_iff_not]
          omega
        by_cases h1 : f ≤ k
        · have h2 : ¬ k ≤ t := fun h => hin ⟨h1, h⟩
          clear hin
          go_wp2
          go_roundw
          case rel => exact ⟨k + 1, by omega, by go_num, hs.out.as (fun c _ => by rw [HX.out]; exact Oct.below_no k _ HT.out c)⟩
          case measure => simp [intOf]; omega
        · clear hin
          go_wp2
          go_roundw
          case rel => exact ⟨k + 1, by omega, by go_num, hs.out.as (fun c _ => by rw [HX.out]; exact Oct.below_no k _ HT.out c)⟩
          case measure => simp [intOf]; omega
    · have HK : Hid (k = 256) := by show k = 256; omega
      go_wp2
      exact hs.out.ret Try.f21 4 rfl rfl rfl (by omega) _ (fun c hc => by rw [HX.out, HK.out]; exact Oct.below_all _ c hc)
end Go.Proofs.Ytemmicnhnaafmaa
