/- A deliverer, as plain mathematics and in memory; moment, mayGo, send, take. -/
import Derived.Test.YtmdhlaccioaomaaG10
import Derived.Test.YtmdhlaccioaomaaG12
import Derived.Test.YtmdhlaccioaomaaG15
namespace Go.Proofs.Ytmdhlaccioaomaa
open Go.RowKit Go.Maps Rg Bo
attribute [local go_sem ↓] Go.wp_at_zero Go.wp_at_succ loadAl_eq storeAl_eq

/-- the queue; is its first with the sink; how often it was refused; the wait -/
structure De where
  l : List Al
  wi : Bool
  rf : Nat
  wt : Nat
/-- a time as it is taken -/
def mo (z : Int) : Nat := if z < 0 then 0 else if 2305843009213693952 < z then 2305843009213693952 else z.toNat
theorem mo_le (z : Int) : mo z ≤ 2305843009213693952 := by unfold mo; split <;> (try split) <;> omega
def De.may (x : De) (t : Nat) : Bool := decide (0 < x.l.length) && !x.wi && decide (x.wt ≤ t)
def De.one (x : De) : Al := x.l.head?.getD alZ
/-- a refusal, at a time, with a jitter -/
def De.no (x : De) (bs ms jl : Nat) (t : Nat) (z : Int) : De := ⟨x.l, false, x.rf + 1, t + dl bs ms x.rf + jt z jl⟩
structure De.Ok (x : De) : Prop where
  one : x.wi = true → 0 < x.l.length
  rf : x.rf ≤ 1000000
  wt : x.wt ≤ 4611686018427387904
def DBox (w : World) (D B : Nat) (wi : Bool) (rf wt bs ms jl : Nat) : Prop := w.heap[D]? = some (.cells #[.pointer (some ⟨B, 0, none⟩), .bool wi, .int .i64 (rf : Nat), .int .i64 (wt : Nat), .int .i64 (bs : Nat), .int .i64 (ms : Nat), .int .i64 (jl : Nat)] 75 (0, 0))
section
variable {w u v : World} {D B R n f : Nat} {wi : Bool} {rf wt bs ms jl : Nat}
theorem DBox.cells (h : DBox w D B wi rf wt bs ms jl) : w.cell? ⟨D, 0, none⟩ = some (.pointer (some ⟨B, 0, none⟩)) ∧ w.cell? ⟨D, 1, none⟩ = some (.bool wi) ∧ w.cell? ⟨D, 2, none⟩ = some (.int .i64 (rf : Nat)) ∧ w.cell? ⟨D, 3, none⟩ = some (.int .i64 (wt : Nat)) ∧ w.cell? ⟨D, 4, none⟩ = some (.int .i64 (bs : Nat)) ∧ w.cell? ⟨D, 5, none⟩ = some (.int .i64 (ms : Nat)) ∧ w.cell? ⟨D, 6, none⟩ = some (.int .i64 (jl : Nat)) := by
  simp [World.cell?, show w.heap[D]? = _ from h]
theorem DBox.frozen (h : DBox w D B wi rf wt bs ms jl) (j : Nat) : w.frozen? ⟨D, j, none⟩ = false := by simp [World.frozen?, show w.heap[D]? = _ from h]
theorem DBox.ty (h : DBox w D B wi rf wt bs ms jl) : TyB w 75 D := ⟨_, _, h⟩
theorem DBox.lt (h : DBox w D B wi rf wt bs ms jl) : D < w.heap.size := (Array.getElem?_eq_some_iff.1 h).1
theorem DBox.same (h : DBox w D B wi rf wt bs ms jl) (e : u.heap[D]? = w.heap[D]?) : DBox u D B wi rf wt bs ms jl := e.trans h
theorem DBox.put1 (h : DBox w D B wi rf wt bs ms jl) (b : Bool) : DBox (w.setCell ⟨D, 1, none⟩ (.bool b)) D B b rf wt bs ms jl := by unfold DBox; rw [heap_set h]; simp
theorem DBox.put2 (h : DBox w D B wi rf wt bs ms jl) (k : Nat) : DBox (w.setCell ⟨D, 2, none⟩ (.int .i64 (k : Nat))) D B wi k wt bs ms jl := by unfold DBox; rw [heap_set h]; simp
theorem DBox.put3 (h : DBox w D B wi rf wt bs ms jl) (k : Nat) : DBox (w.setCell ⟨D, 3, none⟩ (.int .i64 (k : Nat))) D B wi rf k bs ms jl := by unfold DBox; rw [heap_set h]; simp
end
/-- A DELIVERER IN MEMORY -/
structure DlAt (w : World) (D B R n f bs ms jl : Nat) (x : De) : Prop where
  d : DBox w D B x.wi x.rf x.wt bs ms jl
  r : AgAt w B R n f x.l
  ok : x.Ok
  bs : bs ≤ 1099511627776
  ms : ms ≤ 1099511627776
  jl : jl ≤ 1099511627776
/-- what a call leaves -/
def DTo (D B R n bs ms jl : Nat) (x : De) (w w' : World) : Prop := (∃ f, DlAt w' D B R n f bs ms jl x) ∧ FrP (fun k => k = D ∨ k = B ∨ k = R) w w'
section
variable {w u v : World} {D B R n f bs ms jl : Nat} {x y : De}
theorem DlAt.ne (h : DlAt w D B R n f bs ms jl x) : D ≠ B ∧ D ≠ R ∧ R ≠ B := by
  refine ⟨fun e => ?_, fun e => ?_, h.r.ne⟩
  · have := h.d.ty
    rw [e] at this
    exact absurd (TyB.ne this h.r.b.ty) (by decide)
  · have := h.d.ty
    rw [e] at this
    exact absurd (TyB.ne this h.r.r.ty) (by decide)
theorem DlAt.same (h : DlAt w D B R n f bs ms jl x) (e1 : u.heap[D]? = w.heap[D]?) (e2 : u.heap[B]? = w.heap[B]?) (e3 : u.heap[R]? = w.heap[R]?) : DlAt u D B R n f bs ms jl x := ⟨h.d.same e1, h.r.same e2 e3, h.ok, h.bs, h.ms, h.jl⟩
theorem DlAt.later (h : DlAt w D B R n f bs ms jl x) (hb : Below w.heap.size w u) : DlAt u D B R n f bs ms jl x := h.same (hb.block D h.d.lt) (hb.block B h.r.b.lt) (hb.block R h.r.r.lt)
theorem DlAt.drew (h : DlAt w D B R n f bs ms jl x) : DlAt w.drew D B R n f bs ms jl x := h.later (tdrew1 w)
theorem DTo.below (h : DlAt w D B R n f bs ms jl x) (hb : Below w.heap.size w u) : DTo D B R n bs ms jl x w u := ⟨⟨f, h.later hb⟩, FrP.of_below _ hb⟩
theorem frp_trans {Q : Nat → Prop} (h : FrP Q w u) (h2 : FrP Q u v) : FrP Q w v := h.trans h2 (fun _ _ e => e)
theorem DTo.then (h : DTo D B R n bs ms jl x w u) (h2 : ∀ f, DlAt u D B R n f bs ms jl x → DTo D B R n bs ms jl y u v) : DTo D B R n bs ms jl y w v := by
  obtain ⟨⟨f, h1⟩, h3⟩ := h
  obtain ⟨h4, h5⟩ := h2 f h1
  exact ⟨h4, frp_trans h3 h5⟩
theorem DTo.after (h : DTo D B R n bs ms jl x w u) (hb : Below u.heap.size u v) : DTo D B R n bs ms jl x w v := h.then fun _ h => DTo.below h hb
theorem DTo.before (hb : Below w.heap.size w u) (h : DTo D B R n bs ms jl x u v) : DTo D B R n bs ms jl x w v := ⟨h.1, frp_trans (FrP.of_below _ hb) h.2⟩
end
theorem mo_eq (z : Int) : min (max z 0) 2305843009213693952 = ((mo z : Nat) : Int) := by
  unfold mo
  split
  · omega
  · split <;> omega
theorem moment_any (z : Int) (w : World) : Calls Try.prog 27 #[.int .i64 z] w fun e w' => e = .returned (.int .i64 (mo z : Nat)) ∧ w' = w := by
  have HM : Hid (min (max z 0) 2305843009213693952 = ((mo z : Nat) : Int)) := mo_eq z
  go_enter Try.func27, Try.ntmps27
  go_wp2
  go_ret
  exact ⟨ret_int HM.out, rfl⟩
set_option maxRecDepth 4000 in
theorem mayGo_any {w : World} {D B R n f bs ms jl : Nat} {x : De} (h : DlAt w D B R n f bs ms jl x) (t : Nat) :
    Calls Try.prog 26 #[.pointer (some ⟨D, 0, none⟩), .int .i64 (t : Nat)] w fun e w' => e = .returned (.bool (x.may t)) ∧ w' = w := by
  have HLN : Hid (Calls Try.prog 39 #[.pointer (some ⟨B, 0, none⟩)] w _) := tlen_any h.r.b
  obtain ⟨c0, c1, c2, c3, -⟩ := h.d.cells
  have hwt := h.ok.wt
  obtain ⟨l, wi, rf, wt⟩ := x
  simp only at c0 c1 c2 c3 HLN hwt
  unfold De.may
  simp only
  obtain ⟨m, hm⟩ : ∃ m, l.length = m := ⟨_, rfl⟩
  have hm64 : m ≤ 64 := by have h1 : l.length ≤ n := h.r.l; have := h.r.n; omega
  rw [hm] at HLN ⊢
  clear h hm
  by_cases h1 : 0 < m
  · have l1 : (0 : Int) < (m : Int) := by omega
    rw [decide_eq_true h1]
    cases wi with
    | true =>
      go_enter Try.func26, Try.ntmps26
      go_wp2_with fail
      refine HLN.out.mono ?_
      rintro e u ⟨rfl, rfl⟩
      go_wp2
      go_ret
      exact ⟨rfl, rfl⟩
    | false =>
      have HR : Hid (decide ((wt : Int) ≤ (t : Int)) = decide (wt ≤ t)) := by show _ = _; by_cases e : wt ≤ t <;> simp [e]
      go_enter Try.func26, Try.ntmps26
      go_wp2_with fail
      refine HLN.out.mono ?_
      rintro e u ⟨rfl, rfl⟩
      go_wp2
      go_ret
      exact ⟨ret_bool (by simp), rfl⟩
  · obtain rfl : m = 0 := by omega
    rw [decide_eq_false h1]
    go_enter Try.func26, Try.ntmps26
    go_wp2_with fail
    refine HLN.out.mono ?_
    rintro e u ⟨rfl, rfl⟩
    go_wp2
    go_ret
    exact ⟨rfl, rfl⟩
end Go.Proofs.Ytmdhlaccioaomaa
