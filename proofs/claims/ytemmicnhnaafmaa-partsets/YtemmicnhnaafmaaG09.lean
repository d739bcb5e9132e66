/- part.Classes of at most 64 sets. -/
import Derived.Test.YtemmicnhnaafmaaG08
namespace Go.Proofs.Ytemmicnhnaafmaa
open Go.RowKit Go.Shelf
attribute [local go_sem] Oper.semAt_some

theorem wpListIn_load_arr {F : Fence} {n : Nat} {ops : Array Oper} {rest : List Oper} {o : Oper} {a : Act} {w : World} {Q : Exit → Act → World → Prop} (hgd : o.guard = none) (x : Operand) (ho : o.op = .load 38 x) {A : Nat} {f : Nat → Int} (h : AB w A f) (hx : a.eval x = .pointer (some ⟨A, 0, none⟩))
    (hk : wpListIn F n Try.prog ops Q rest (a.put o.dst (.agg (cv f))) w) : wpListIn F n Try.prog ops Q (o :: rest) a w := by
  refine wpListIn_plain hgd fun K hK' => ?_
  unfold Oper.wpIn
  refine ⟨?_, ?_⟩
  · simp [Oper.about, ho]
  · rw [Oper.semAt_plain F _ _ (by rw [ho]; intro c hc'; cases hc')]
    simp only [execOp, ho, hx, Sem.run_bind, h.load]
    exact hK' _ _ hk
theorem wpListIn_store_arr {F : Fence} {n : Nat} {ops : Array Oper} {rest : List Oper} {o : Oper} {a : Act} {w : World} {Q : Exit → Act → World → Prop} (hgd : o.guard = none) (x y : Operand) (ho : o.op = .store 38 x y) {A : Nat} {f g : Nat → Int} (h : AB w A f) (hx : a.eval x = .pointer (some ⟨A, 0, none⟩)) (hy : a.eval y = .agg (cv g))
    (hk : wpListIn F n Try.prog ops Q rest (a.put o.dst undef) (w.setRow A (cv g))) : wpListIn F n Try.prog ops Q (o :: rest) a w := by
  refine wpListIn_plain hgd fun K hK' => ?_
  unfold Oper.wpIn
  refine ⟨?_, ?_⟩
  · simp [Oper.about, ho]
  · rw [Oper.semAt_plain F _ _ (by rw [ho]; intro c hc'; cases hc')]
    simp only [execOp, ho, hx, hy, Sem.run_bind, h.store g]
    exact hK' _ _ hk
/-- the classes, and how many, behind so many chunks -/
def gC (ss : List Oct.S) (pre : List Unit) : Nat → Int := if pre = [] then fun _ => 0 else clsV ss
def nC (ss : List Oct.S) (pre : List Unit) : Nat := if pre = [] then 1 else Pt.cnt (Pt.sameB ss) 256
structure Cs (ss : List Oct.S) (w W : World) (pre : List Unit) : Prop where
  res : AB W w.heap.size (fun _ => 0)
  arr : AB W (w.heap.size + 1) (gC ss pre)
  num : Boxed W (w.heap.size + 2) 3 (.int .i64 (nC ss pre : Nat))
  low : Below w.heap.size w W
theorem AB.kept {W W' : World} {row : Option Nat} {B : Nat} {f : Nat → Int} (h : AB W B f) (hg : W.grownBy W' row) (hne : some B ≠ row) : AB W' B f := (hg.block B h.lt hne).trans h
theorem ab_ne {W : World} {B : Nat} {f : Nat → Int} {row : Option Nat} (h : AB W B f) (hr : ∀ r, row = some r → ∃ o : Obj, W.heap[r]? = some o ∧ o.isCells = false) : some B ≠ row := fun e => by
  obtain ⟨o, ho, hc⟩ := hr B e.symm
  rw [show W.heap[B]? = _ from h] at ho
  cases ho
  cases hc
theorem own_ne {W : World} {B : Nat} {t : TypeId} {v : Value} {row : Option Nat} (h : Boxed W B t v) (hr : ∀ r, row = some r → ∃ o : Obj, W.heap[r]? = some o ∧ o.isCells = false) : some B ≠ row := fun e => by
  obtain ⟨o, ho, hc⟩ := hr B e.symm
  rw [show W.heap[B]? = _ from h] at ho
  cases ho
  cases hc
theorem AB.setRow_other {w : World} {A B : Nat} {f : Nat → Int} (h : AB w A f) (hne : A ≠ B) (c : Array Value) : AB (w.setRow B c) A f := h.same (heap_row w B A c hne)
theorem keeps_row {W : World} {A : Nat} {f : Nat → Int} (h : AB W A f) (c : Array Value) : KeepsOthers W (W.setRow A c) := ⟨by rw [size_row]; exact Nat.le_refl _, fun k o hk ho => by
  by_cases e : k = A
  · subst e
    rw [show W.heap[k]? = _ from h] at hk
    cases hk
    cases ho
  · rw [heap_row _ _ _ _ e]
    exact hk⟩
def ClassesPost (ss : List Oct.S) (w : World) (e : Ending) (w' : World) : Prop := e = .returned (.tuple #[.agg (cv (clsV ss)), .int .i64 (Pt.cnt (Pt.sameB ss) 256 : Nat)]) ∧ Below w.heap.size w w'
set_option maxRecDepth 100000 in
set_option maxHeartbeats 4000000 in
theorem classes_any (a : Option Addr) (n cap : Nat) (ss : List Oct.S) (w : World) (hn : n = ss.length) (hl : n ≤ 64) (hc : n ≤ cap) (hat : SetsAt w a ss) :
    Calls Try.prog 13 #[.slice a n cap] w (ClassesPost ss w) := by
  have hz := zeroArr
  have ha : n = 0 ∨ ∃ b off, a = some ⟨b, off, none⟩ := by
    rcases hat with h | ⟨b, off, h, _⟩
    · left; rw [hn, h]; rfl
    · exact .inr ⟨b, off, h⟩
  have HAT : Hid (SetsAt w a ss) := hat
  have HN : Hid (n = ss.length) := hn
  have HA : Hid (n = 0 ∨ ∃ b off, a = some ⟨b, off, none⟩) := ha
  clear hat hn ha
  obtain ⟨w3, hw3⟩ : ∃ w3, ((w.alloc (.cells (cv fun _ => 0) 38)).alloc (.cells (cv fun _ => 0) 38)).alloc (.cells #[.int .i64 1] 3) = w3 := ⟨_, rfl⟩
  have hs3 : w3.heap.size = w.heap.size + 3 := by rw [← hw3]; simp
  have k1 : Below w.heap.size w (w.alloc (.cells (cv fun _ => 0) 38)) := (Below.refl _ _).alloc (Nat.le_refl _) _
  have k2 := k1.alloc k1.size (.cells (cv fun _ => 0) 38)
  have k3 := k2.alloc k2.size (.cells #[.int .i64 1] 3)
  have HW3 : Hid (((w.alloc (.cells (cv fun _ => 0) 38)).alloc (.cells (cv fun _ => 0) 38)).alloc (.cells #[.int .i64 1] 3) = w3) := hw3
  have a0 : AB w3 w.heap.size (fun _ => 0) := by
    rw [← hw3]
    exact ((ab_new w (fun _ => 0)).later ((Below.refl _ _).alloc (Nat.le_refl _) _)).later ((Below.refl _ _).alloc (Nat.le_refl _) _)
  have a1 : AB w3 (w.heap.size + 1) (fun _ => 0) := by
    rw [← hw3]
    have h := (ab_new (w.alloc (.cells (cv fun _ => 0) 38)) (fun _ => 0)).later (w' := ((w.alloc (.cells (cv fun _ => 0) 38)).alloc (.cells (cv fun _ => 0) 38)).alloc (.cells #[.int .i64 1] 3)) ((Below.refl _ _).alloc (Nat.le_refl _) _)
    simpa using h
  have a2 : Boxed w3 (w.heap.size + 2) 3 (.int .i64 1) := by
    rw [← hw3]
    have h := Boxed.new ((w.alloc (.cells (cv fun _ => 0) 38)).alloc (.cells (cv fun _ => 0) 38)) 3 (.int .i64 1)
    simpa using h
  rw [hw3] at k3
  have HC3 : Hid (Cs ss w w3 []) := ⟨a0, a1, a2, k3⟩
  clear k1 k2 k3 a0 a1 a2 hw3
  refine (callsIn_wide (n := 4)).1 ?_
  refine callsIn_of_wp_marks Try.func13 rfl trivial ?_ rfl
  simp only [Try.ntmps13, List.size_toArray, List.length_cons, List.length_nil, Nat.reduceAdd, Nat.reduceSub, Array.replicate_succ, Array.replicate_zero, List.push_toArray, List.append_toArray, List.nil_append, List.cons_append]
  gi_wp2
  refine ⟨trivial, ?_⟩
  rw [HW3.out]
  refine (callsIn_wide.2 (chunk_any a n cap w3)).mono ?_
  rintro e w5 ⟨rfl, hw5⟩
  clear HW3
  have k5 : Below w3.heap.size w3 w5 := by rw [hw5]; exact ((Below.refl _ _).alloc (Nat.le_refl _) _).alloc (by simp) _
  have hs5 : w5.heap.size = w.heap.size + 5 := by rw [hw5]; simp [hs3]
  have c1 : w5.cell? ⟨w3.heap.size, 0, none⟩ = some (.slice a n cap) := by
    rw [hw5]
    have h := (Boxed.new w3 27 (.slice a n cap)).alloc (.cells #[.int .i64 64] 3)
    exact h.cell
  have c2 : w5.cell? ⟨w3.heap.size + 1, 0, none⟩ = some (.int .i64 64) := by
    rw [hw5]
    have h := Boxed.new (w3.alloc (.cells #[.slice a n cap] 27)) 3 (.int .i64 64)
    simp only [World.size_alloc] at h
    exact h.cell
  have HC5 : Hid (Cs ss w w5 []) := ⟨HC3.out.res.later k5, HC3.out.arr.later k5, (k5.block _ HC3.out.num.lt).trans HC3.out.num, HC3.out.low.trans (k5.mono (by omega))⟩
  rw [hs3] at c1 c2
  have HST : Hid (SeqStopsK Fence.wide (4 - 1) Try.prog 28 #[.pointer (some ⟨w.heap.size + 3, 0, none⟩), .pointer (some ⟨w.heap.size + 3 + 1, 0, none⟩)] (encU a n) (KpC w.heap.size (w.heap.size + 3) (w.heap.size + 3 + 1)) (fun xs => xs.length = if n = 0 then 0 else 1) (fun _ => True) 1 w5) :=
    chunk_stops (4 - 1) (by omega) (w.heap.size + 3) (w.heap.size + 3 + 1) n cap w.heap.size a w5 hl hc HA.out c1 c2
  rw [hs3]
  clear hw5 k5 c1 c2 HC3 hs3
  gi_wp2
  refine wpIn_rangeFunc_ownG rfl (by omega) (gf := 28) (lb := #[.pointer (some ⟨w.heap.size + 3, 0, none⟩), .pointer (some ⟨w.heap.size + 3 + 1, 0, none⟩)]) rfl trivial (enters_of Try.func28 (by kernel_rfl) rfl)
    HST.out KpC.t (KpC.b (by omega) (by omega) (by omega)) (Below.refl _ _) (fun _ => rfl)
    (fun pre W => Cs ss w W pre ∧ w.heap.size + 5 ≤ W.heap.size)
    (fun _ _ _ => False)
    (fun pre W W' row ⟨hs, hz5⟩ hg hr => ⟨⟨hs.res.kept hg (ab_ne hs.res (fun r e => (hr r e).2)), hs.arr.kept hg (ab_ne hs.arr (fun r e => (hr r e).2)), hs.num.kept hg (own_ne hs.num (fun r e => (hr r e).2)), hs.low.grown hg hs.low.size (fun k e => by have := (hr k e).1; omega)⟩, Nat.le_trans hz5 hg.size⟩)
    (fun _ _ _ _ _ hs _ _ => hs)
    ⟨HC5.out, by omega⟩
    (fun x => { tmps := #[.slice a n cap, undef, .pointer (some ⟨w.heap.size, 0, none⟩), .int .i64 0, .pointer (some ⟨w.heap.size + 1, 0, none⟩), .pointer (some ⟨w.heap.size + 2, 0, none⟩), .slice a n n, .slice a n cap, .func (.func 28) #[] #[.pointer (some ⟨w.heap.size + 3, 0, none⟩), .pointer (some ⟨w.heap.size + 3 + 1, 0, none⟩)], .slice a n n, undef, undef, undef, undef, undef, undef, undef, undef], defers := [] }) ?assign ?body ?done ?stop
  case assign =>
    intro l x W K hK
    gi_wp2
    exact hK
  case body =>
    rintro l pre x W ⟨hs, hWs⟩ hlt
    have hpre : pre = [] := by cases pre with | nil => rfl | cons y t => simp at hlt
    subst hpre
    have hA0 : AB W (w.heap.size + 1) (fun _ => 0) := hs.arr
    have HS : Hid (Cs ss w W []) := hs
    have HA0 : Hid (AB W (w.heap.size + 1) (fun _ => 0)) := hA0
    have HSP : Hid (Calls Try.prog 23 #[.agg (cv fun _ => 0), .slice a n n] W (SplitPost ss W)) := split_any a n n ss W HN.out hl (setsAt_later hs.low HAT.out)
    clear hs hA0 hlt
    gi_wp2_with (first | refine wpListIn_load_arr rfl (.tmp 4) rfl HA0.out rfl ?_ | fail)
    refine ⟨trivial, ?_⟩
    refine (CallsIn.inRound l (callsIn_wide.2 HSP.out)).mono ?_
    rintro e w6 ⟨rfl, hb6⟩
    have hs6 : Cs ss w w6 [] := ⟨HS.out.res.later hb6, HS.out.arr.later hb6, (hb6.block _ HS.out.num.lt).trans HS.out.num, HS.out.low.trans (hb6.mono HS.out.low.size)⟩
    have HA6 : Hid (AB w6 (w.heap.size + 1) (fun _ => 0)) := hs6.arr
    have hn7 : Boxed (w6.setRow (w.heap.size + 1) (cv (clsV ss))) (w.heap.size + 2) 3 (.int .i64 1) := (heap_row _ _ _ _ (by omega)).trans hs6.num
    have c7 := hn7.cell
    have f7 := hn7.frozen
    obtain ⟨v, hv⟩ : ∃ v, v = Pt.cnt (Pt.sameB ss) 256 := ⟨_, rfl⟩
    rw [← hv]
    have hkr := keeps_row hs6.arr (cv (clsV ss))
    have HEND : Hid (KeepsFrom w5.heap.size W ((w6.setRow (w.heap.size + 1) (cv (clsV ss))).setCell ⟨w.heap.size + 2, 0, none⟩ (.int .i64 (v : Nat))) ∧ KpC w.heap.size (w.heap.size + 3) (w.heap.size + 3 + 1) W ((w6.setRow (w.heap.size + 1) (cv (clsV ss))).setCell ⟨w.heap.size + 2, 0, none⟩ (.int .i64 (v : Nat))) ∧ Cs ss w ((w6.setRow (w.heap.size + 1) (cv (clsV ss))).setCell ⟨w.heap.size + 2, 0, none⟩ (.int .i64 (v : Nat))) [x] ∧ w.heap.size + 5 ≤ ((w6.setRow (w.heap.size + 1) (cv (clsV ss))).setCell ⟨w.heap.size + 2, 0, none⟩ (.int .i64 (v : Nat))).heap.size) := by
      have hst : ∀ b, b ≠ w.heap.size + 1 → b ≠ w.heap.size + 2 → ((w6.setRow (w.heap.size + 1) (cv (clsV ss))).setCell ⟨w.heap.size + 2, 0, none⟩ (.int .i64 (v : Nat))).heap[b]? = w6.heap[b]? := fun b h1 h2 => (Below.heap_setCell _ ⟨w.heap.size + 2, 0, none⟩ _ b h2).trans (heap_row _ _ _ _ h1)
      refine ⟨?_, ⟨?_, ?_, ?_⟩, ⟨?_, ?_, ?_, ?_⟩, ?_⟩
      · exact ⟨Nat.le_trans hb6.size (by simp), fun k o hk ho hc => by rw [hst k (by omega) (by omega), hb6.block k (Array.getElem?_eq_some_iff.1 ho).1]; exact ho⟩
      · exact (below_row (hb6.mono (by omega)) (by omega) _).setCell (by simp) _
      · rw [hst _ (by omega) (by omega), hb6.block _ (by omega)]
      · rw [hst _ (by omega) (by omega), hb6.block _ (by omega)]
      · exact hs6.res.same (hst _ (by omega) (by omega))
      · exact (hs6.arr.put (clsV ss)).same (Below.heap_setCell _ ⟨w.heap.size + 2, 0, none⟩ _ _ (by simp))
      · have h := hn7.set (.int .i64 (v : Nat))
        rw [hv] at h ⊢
        exact h
      · exact (below_row hs6.low (by omega) _).setCell (by simp) _
      · have := hb6.size; simp; omega
    have HV : Hid (v = Pt.cnt (Pt.sameB ss) 256) := hv
    clear hb6 hs6 hn7 hv hkr HSP HA0
    gi_wp2_with (first | refine wpListIn_store_arr rfl (.tmp 4) (.tmp 14) rfl HA6.out rfl rfl ?_ | fail)
    exact HEND.out
  case done =>
    rintro D ys W hD hys ⟨hs, _⟩ hK
    have hg : cv (gC ss ys) = cv (clsV ss) ∧ nC ss ys = Pt.cnt (Pt.sameB ss) 256 := by
      unfold gC nC
      by_cases e : ys = []
      · have h0 : ss = [] := by
          rw [e] at hys
          by_cases h : n = 0
          · rw [HN.out] at h; exact List.length_eq_zero_iff.1 h
          · rw [if_neg h] at hys; simp at hys
        rw [if_pos e, if_pos e, h0, Pt.cnt_one]
        exact ⟨cv_congr (fun i _ => by unfold clsV; rw [Pt.cls_one]; rfl), rfl⟩
      · rw [if_neg e, if_neg e]
        exact ⟨rfl, rfl⟩
    have HA1 : Hid (AB W (w.heap.size + 1) (clsV ss)) := by
      show W.heap[_]? = _
      rw [← hg.1]
      exact hs.arr
    have hn0 := hs.num
    rw [hg.2] at hn0
    have HLO : Hid (Below w.heap.size w (W.drew.setRow w.heap.size (cv (clsV ss)))) := below_row hs.low.drew (Nat.le_refl _) _
    have HRR : Hid (AB (W.drew.setRow w.heap.size (cv (clsV ss))) w.heap.size (clsV ss)) := AB.put (w := W.drew) hs.res (clsV ss)
    have HKK : Hid ((W.drew.setRow w.heap.size (cv (clsV ss))).heap[D]? = some (.deferred (some []))) := (heap_row _ _ _ _ (by omega)).trans hK
    have HRS : Hid (AB W w.heap.size (fun _ => 0)) := hs.res
    have HN0 : Hid (Boxed W (w.heap.size + 2) 3 (.int .i64 (Pt.cnt (Pt.sameB ss) 256 : Nat))) := hn0
    clear hn0 hs hg hys
    gi_wp2
    refine wpIn_wide.2 ?_
    rename_i K hret
    refine reg6 (M := w.heap.size) rfl rfl rfl rfl HRS.out HA1.out HN0.out ?_
    intro x hxd hx2 hx3
    obtain ⟨tmps, defers⟩ := x
    simp only at hxd hx2 hx3
    subst hxd
    refine hret _ _ ?_
    gi_wp2
    refine ⟨by simp, .inl ⟨_, _, rfl, run_takeDeferred HKK.out, ?_⟩⟩
    have hbb := belowK_b (w := w) (n₀ := w.heap.size) (Nat.le_refl _) (W.drew.setRow w.heap.size (cv (clsV ss))) D _ (.deferred none) (by omega) HKK.out rfl rfl
    refine ⟨_, results_arr_int rfl _ _ (HRR.out.same (World.putObj_heap_other (by omega))) (v := .int .i64 (Pt.cnt (Pt.sameB ss) 256 : Nat)) (by simp [hx2]) (by simp [hx3]), rfl, HLO.out.trans hbb⟩
  case stop =>
    rintro D c pre W _ _ h _
    exact h.elim
end Go.Proofs.Ytemmicnhnaafmaa
