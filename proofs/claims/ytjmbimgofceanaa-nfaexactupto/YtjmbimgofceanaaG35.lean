/- heronlaw07's kept of a copy. -/
import Derived.Test.YtjmbimgofceanaaG33
import Derived.Test.YtjmbimgofceanaaG30
import Derived.Test.YtjmbimgofceanaaG01
namespace Go.Proofs.Ytjmbimgofceanaa
open Go.RowKit
attribute [local go_sem ↓] Go.wp_at_zero Go.wp_at_succ

set_option maxRecDepth 4000 in
set_option maxHeartbeats 16000000 in
theorem kept_any {X Y : Nat → Prop} {M : Ma} {x y : Nf} (w : World) (hx : Cop X w M x) (hy : MaAt Y w M y) (he : M.es.length ≤ 10000000) (hr : M.rs.length ≤ 10000000) : Calls Try.prog 24 #[x.val, y.val] w fun e w' => e = .returned (.bool true) ∧ Below w.heap.size w w' := by
  have kk : Below w.heap.size w ((w.alloc (.cells #[.int .i64 x.S, .slice x.ea x.en x.ec, .slice x.ra x.rn x.rc] 38)).alloc (.cells #[.int .i64 y.S, .slice y.ea y.en y.ec, .slice y.ra y.rn y.rc] 38)) := ((Below.refl _ _).alloc (Nat.le_refl _) _).alloc (by simp) _
  have HNX : Hid (NFB ((w.alloc (.cells #[.int .i64 x.S, .slice x.ea x.en x.ec, .slice x.ra x.rn x.rc] 38)).alloc (.cells #[.int .i64 y.S, .slice y.ea y.en y.ec, .slice y.ra y.rn y.rc] 38)) w.heap.size x) := (nfb_new w x).later ((Below.refl _ _).alloc (Nat.le_refl _) _)
  have HNY : Hid (NFB ((w.alloc (.cells #[.int .i64 x.S, .slice x.ea x.en x.ec, .slice x.ra x.rn x.rc] 38)).alloc (.cells #[.int .i64 y.S, .slice y.ea y.en y.ec, .slice y.ra y.rn y.rc] 38)) (w.heap.size + 1) y) := by
    have h1 := nfb_new (w.alloc (.cells #[.int .i64 x.S, .slice x.ea x.en x.ec, .slice x.ra x.rn x.rc] 38)) y
    rw [show (w.alloc (.cells #[.int .i64 x.S, .slice x.ea x.en x.ec, .slice x.ra x.rn x.rc] 38)).heap.size = w.heap.size + 1 by simp] at h1
    exact h1
  have HB : Hid (Below w.heap.size w ((w.alloc (.cells #[.int .i64 x.S, .slice x.ea x.en x.ec, .slice x.ra x.rn x.rc] 38)).alloc (.cells #[.int .i64 y.S, .slice y.ea y.en y.ec, .slice y.ra y.rn y.rc] 38))) := kk
  obtain ⟨w2, hw2⟩ : ∃ w2, ((w.alloc (.cells #[.int .i64 x.S, .slice x.ea x.en x.ec, .slice x.ra x.rn x.rc] 38)).alloc (.cells #[.int .i64 y.S, .slice y.ea y.en y.ec, .slice y.ra y.rn y.rc] 38)) = w2 := ⟨_, rfl⟩
  rw [hw2] at HNX HNY HB
  obtain ⟨A, hA⟩ : ∃ A, w.heap.size = A := ⟨_, rfl⟩
  obtain ⟨C, hC⟩ : ∃ C, w.heap.size + 1 = C := ⟨_, rfl⟩
  rw [hA] at HNX
  rw [hC] at HNY
  have HW2 : Hid (((w.alloc (.cells #[.int .i64 x.S, .slice x.ea x.en x.ec, .slice x.ra x.rn x.rc] 38)).alloc (.cells #[.int .i64 y.S, .slice y.ea y.en y.ec, .slice y.ra y.rn y.rc] 38)) = w2) := hw2
  have HAA : Hid (w.heap.size = A) := hA
  have HCC : Hid (w.heap.size + 1 = C) := hC
  have HX : Hid (Cop X w2 M x) := hx.later HB.out
  have HY : Hid (MaAt Y w2 M y) := hy.later HB.out
  have HCALL : Hid (∀ u : Later w2, Calls Try.prog 19 #[x.val, y.val] u.at_ fun e w' => e = .returned (.bool true) ∧ Below u.at_.heap.size u.at_ w') := fun u => same_any u.at_ (HX.out.later u.below).ma (HY.out.later u.below) (by omega) (by omega)
  clear hw2 hA hC kk hx hy
  obtain ⟨xS, xa, xn, xc, xra, xrn, xrc⟩ := x
  obtain ⟨yS, ya, yn, yc, yra, yrn, yrc⟩ := y
  have e3 : xn = M.es.length := HX.out.n
  have e4 : yn = M.es.length := HY.out.n
  have e5 : xrn = M.rs.length := HX.out.r
  have e6 : yrn = M.rs.length := HY.out.r
  obtain ⟨n, hn⟩ : ∃ n, M.es.length = n := ⟨_, rfl⟩
  obtain ⟨rn, hrn⟩ : ∃ rn, M.rs.length = rn := ⟨_, rfl⟩
  rw [hn] at e3 e4 he
  rw [hrn] at e5 e6 hr
  subst e3 e5
  subst e4 e6
  have hec : yn + 1 ≤ xc ∧ xc ≤ maxLen := by have := HX.out.ec; rw [hn] at this; exact this
  have hrc : yrn + 1 ≤ xrc ∧ xrc ≤ maxLen := by have := HX.out.rc; rw [hrn] at this; exact this
  obtain ⟨hec1, hec2⟩ := hec
  obtain ⟨hrc1, hrc2⟩ := hrc
  simp only [maxLen] at hec2 hrc2
  obtain ⟨b, off, hxa, m0, _⟩ := HX.out.e.nth (i := yn) (e := markE) (by rw [← hn, List.getElem?_append_right (Nat.le_refl _)]; simp)
  obtain ⟨b', off', hxra, m1⟩ := HX.out.u.nth (i := yrn) (x := 77) (by rw [← hrn, List.getElem?_append_right (Nat.le_refl _)]; simp)
  simp only at hxa hxra
  subst hxa hxra
  have M0 : ∀ u : Later w2, u.at_.cell? ⟨b, off + yn * 7, none⟩ = some (.int .i64 77) := fun u => (World.cell?_of_block (a := ⟨b, off + yn * 7, none⟩) (u.below.block b (lt_of_cell m0))).trans m0
  have M1 : ∀ u : Later w2, u.at_.cell? ⟨b', off' + yrn, none⟩ = some (.int .u32 77) := fun u => (World.cell?_of_block (a := ⟨b', off' + yrn, none⟩) (u.below.block b' (lt_of_cell m1))).trans m1
  have x0 : ∀ u : Later w2, u.at_.cell? ⟨A, 0, none⟩ = some (.int .i64 xS) := fun u => (HNX.out.later u.below).cells.1
  have x1 : ∀ u : Later w2, u.at_.cell? ⟨A, 1, none⟩ = some (.slice (some ⟨b, off, none⟩) yn xc) := fun u => (HNX.out.later u.below).cells.2.1
  have x2 : ∀ u : Later w2, u.at_.cell? ⟨A, 2, none⟩ = some (.slice (some ⟨b', off', none⟩) yrn xrc) := fun u => (HNX.out.later u.below).cells.2.2
  have y0 : ∀ u : Later w2, u.at_.cell? ⟨C, 0, none⟩ = some (.int .i64 yS) := fun u => (HNY.out.later u.below).cells.1
  have y1 : ∀ u : Later w2, u.at_.cell? ⟨C, 1, none⟩ = some (.slice ya yn yc) := fun u => (HNY.out.later u.below).cells.2.1
  have y2 : ∀ u : Later w2, u.at_.cell? ⟨C, 2, none⟩ = some (.slice yra yrn yrc) := fun u => (HNY.out.later u.below).cells.2.2
  have hne : Nonempty (Later w2) := ⟨⟨w2, Below.refl _ _⟩⟩
  unfold Nf.val at HCALL
  unfold Nf.val
  simp only at HW2 ⊢
  clear hn hrn m0 m1 HX HY
  go_enter Try.func24, Try.ntmps24
  go_upto_region 1 with fail
  rw [HW2.out, HCC.out, HAA.out]
  clear HW2
  obtain ⟨N1, hN1⟩ : ∃ N1, yn + 1 = N1 := ⟨_, rfl⟩
  obtain ⟨R1, hR1⟩ : ∃ R1, yrn + 1 = R1 := ⟨_, rfl⟩
  have w2a : ((yn : Int) + 1) = (N1 : Int) := by omega
  have w2b : ((yrn : Int) + 1) = (R1 : Int) := by omega
  have hN2 : N1 ≤ xc := by omega
  have hR2 : R1 ≤ xrc := by omega
  have hN3 : (N1 : Int) ≤ (xc : Int) := by omega
  have hR3 : (R1 : Int) ≤ (xrc : Int) := by omega
  have hN4 : (yn : Int) < (N1 : Int) := by omega
  have hR4 : (yrn : Int) < (R1 : Int) := by omega
  have hN5 : yn < N1 := by omega
  have hR5 : yrn < R1 := by omega
  refine wp_region_later (by kernel_rfl) (by kernel_rfl) ?_
  repeat (first
    | go_big_quiet_step ((go_at_call 19; exact calls_later (HCALL.out _)))
    | quiet_step ((go_at_call 19; exact calls_later (HCALL.out _))))
  refine wpQuiet_nil ?_
  intro _ hw'
  obtain ⟨u, hw''⟩ := hw'
  subst hw''
  go_wp2
  go_ret
  exact ⟨rfl, below_step HB.out u.below⟩
end Go.Proofs.Ytjmbimgofceanaa

/- Rows of machines of the call's own. -/
namespace Go.Proofs.Ytjmbimgofceanaa
open Go.RowKit

theorem flatM_length (xs : List Nf) : (flatM xs).length = 3 * xs.length := by
  induction xs with
  | nil => rfl
  | cons x r ih => simp only [flatM, List.flatMap_cons, List.length_append, List.length_cons] at ih ⊢; rw [ih]; simp [Nf.cells]; omega
theorem flatM_append (a b : List Nf) : flatM (a ++ b) = flatM a ++ flatM b := by simp [flatM]
theorem flatM_one (xs : List Nf) : ∀ u ∈ flatM xs, u.oneCell' = true := by
  intro u hu
  obtain ⟨x, _, hx⟩ := List.mem_flatMap.1 hu
  simp only [Nf.cells, List.mem_cons, List.not_mem_nil, or_false] at hx
  rcases hx with rfl | rfl | rfl <;> rfl
def RowM (w : World) (base : Nat) (V : Value) (xs : List Nf) : Prop := w.ownsRow base 38 3 V xs.length (flatM xs)
theorem infoM : (Try.prog.info? 38).map (fun i => (i.zero, i.size, i.bytes)) = some (some (.agg #[.int .i64 0, .slice none 0 0, .slice none 0 0]), 3, 56) := by kernel_rfl
theorem rowM_nil (w : World) (base : Nat) : RowM w base (.slice none 0 0) [] := World.ownsRow_nil w base 38 3
section
variable {w w' : World} {base : Nat} {V : Value} {xs : List Nf}
theorem RowM.ty (h : RowM w base V xs) : ∀ b, V.ownBlock = some b → base ≤ b ∧ TyB w 38 b := by
  intro b hb
  rcases h.2 with ⟨rfl, _⟩ | ⟨g, cap, cur, rfl, hbg, hg, _⟩
  · simp [Value.ownBlock] at hb
  · simp [Value.ownBlock] at hb
    subst hb
    exact ⟨hbg, ⟨_, _, hg⟩⟩
theorem RowM.later (h : RowM w base V xs) (hb : Below w.heap.size w w') : RowM w' base V xs := by
  refine ⟨h.1, ?_⟩
  rcases h.2 with h6 | ⟨g, cap, cur, rfl, hBg, hg, rest⟩
  · exact Or.inl h6
  · exact Or.inr ⟨g, cap, cur, rfl, hBg, (hb.block g (Array.getElem?_eq_some_iff.1 hg).1).trans hg, rest⟩
theorem RowM.form (h : RowM w base V xs) : ∃ a c, V = .slice a xs.length c ∧ xs.length ≤ c ∧ c ≤ maxLen ∧ LAt w a xs := by
  rcases h.2 with ⟨hv, hn⟩ | ⟨g, cap, cur, hv, hbg, hg, h1, h2, h3, h4⟩
  · exact ⟨none, 0, by rw [hv, hn], by omega, by decide, Or.inl (List.length_eq_zero_iff.1 hn)⟩
  · refine ⟨_, _, hv, h1, h2, Or.inr ⟨g, 0, rfl, fun j v hj => ?_⟩⟩
    have hlt := (List.getElem?_eq_some_iff.1 hj).1
    rw [flatM_length] at hlt
    rw [← h4, List.getElem?_take_of_lt (by omega)] at hj
    simp only [World.cell?, hg, Nat.zero_add]
    simpa using hj
end
theorem wpList_append_nf {w : World} {ops : Array Oper} {rest : List Oper} {o : Oper} {a : Act} {Q : Exit → Act → World → Prop} (hgd : o.guard = none) (s y : Operand)
    (ho : o.op = .call { callee := .builtin .append, args := #[s, y], argTypes := #[48, 48] })
    (base n : Nat) (V : Value) (xs : List Nf) (hs : a.eval s = V) (hlen : xs.length = n) (hn : RowM w base V xs) (ad : Addr) (cap : Nat) (x : Nf) (hy : a.eval y = .slice (some ad) 1 cap) (hc : ∀ j v, x.cells[j]? = some v → w.cell? (ad.add j) = some v) (hl : n ≤ 20000000) (hb : base ≤ w.heap.size)
    (h : ∀ g cap' w', RowM w' base (.slice (some ⟨g, 0, none⟩) (n + 1) cap') (xs ++ [x]) → w.grownBy w' V.ownBlock → wpList Try.prog ops Q rest (a.put o.dst (.slice (some ⟨g, 0, none⟩) (n + 1) cap')) w') : wpList Try.prog ops Q (o :: rest) a w := by
  refine wpList_plain hgd fun K hK => ?_
  subst hlen
  obtain ⟨i0, hi, hz0, hz1, hz2⟩ := info_parts infoM
  obtain ⟨g, cap', w', hr, ho2, hg, hgg, hlt⟩ := run_append_lies (P := Try.prog) w 48 o.type base 38 i0 _ 3 56 Try.underlying48 hi hz0 hz1 hz2 rfl (by decide) V xs.length _ hn ad 1 cap x.cells rfl hc
    (by have := flatM_one [x]; simpa [flatM] using this) (by decide) (by simp only [maxLen]; omega) (by omega) hb w.heap.size rfl
  unfold Oper.wp execOp
  simp only [ho, resolve, invoke, builtin, Sem.run_bind, Sem.run_pure, Result.andThen_ok, List.map_toArray, List.map_cons, List.map_nil, hs, hy, hr]
  refine hK _ _ (h g cap' w' ?_ hg)
  unfold RowM
  rw [List.length_append, flatM_append]
  have e : flatM [x] = x.cells := by simp [flatM]
  rw [e]
  exact ho2
/-- THE COPIES OF A LIST OF MACHINES. -/
def Cops (w : World) (base : Nat) (Ms : List Ma) (ys : List Nf) : Prop := ∀ (i : Nat) (M : Ma) (y : Nf), Ms[i]? = some M → ys[i]? = some y → Cop (fun b => base ≤ b ∧ ¬ TyB w 38 b) w M y
theorem Cops.later {w w' : World} {base : Nat} {Ms : List Ma} {ys : List Nf} (h : Cops w base Ms ys) (hb : Below w.heap.size w w') : Cops w' base Ms ys := fun i M y hM hy =>
  (h i M y hM hy).keep (fun b hX hlt => ⟨hX.1, fun ht => hX.2 (ht.same (hb.block b hlt).symm)⟩) (fun b _ hlt => hb.block b hlt)
theorem Cops.grown {w w' : World} {base : Nat} {Ms : List Ma} {ys : List Nf} (h : Cops w base Ms ys) {r : Option Nat} (hg : w.grownBy w' r) (hr : ∀ k, r = some k → TyB w 38 k) : Cops w' base Ms ys := fun i M y hM hy => by
  have hst : ∀ b, ¬ TyB w 38 b → b < w.heap.size → w'.heap[b]? = w.heap[b]? := fun b hn hlt => hg.block b hlt (fun e => hn (hr b e.symm))
  exact (h i M y hM hy).keep (fun b hX hlt => ⟨hX.1, fun ht => hX.2 (ht.same (hst b hX.2 hlt).symm)⟩) (fun b hX hlt => hst b hX.2 hlt)
theorem Cops.snoc {w : World} {base : Nat} {Ms : List Ma} {ys : List Nf} {M : Ma} {y : Nf} (h : Cops w base Ms ys) (hM : Ms[ys.length]? = some M) (hc : Cop (fun b => base ≤ b ∧ ¬ TyB w 38 b) w M y) : Cops w base Ms (ys ++ [y]) := fun i M' y' hM' hy' => by
  by_cases hi : i < ys.length
  · rw [List.getElem?_append_left hi] at hy'
    exact h i M' y' hM' hy'
  · rw [List.getElem?_append_right (by omega)] at hy'
    have hi2 : i = ys.length := by
      have := (List.getElem?_eq_some_iff.1 hy').1
      simp at this
      omega
    subst hi2
    simp at hy'
    subst hy'
    rw [hM] at hM'
    cases hM'
    exact hc
theorem Cops.list {w : World} {base : Nat} {Ms : List Ma} {ys : List Nf} {a : Option Addr} (h : Cops w base Ms ys) (hl : ys.length = Ms.length) (ha : LAt w a ys) : ListAt w a Ms ys :=
  ⟨ha, hl, fun i M y hM hy => (h i M y hM hy).ma.keep (fun _ _ _ => trivial) (fun _ _ _ => rfl)⟩
theorem LAt.front {w : World} {a : Option Addr} {xs ys : List Nf} (h : LAt w a (xs ++ ys)) : LAt w a xs := by
  rcases h with h | ⟨b, off, ha, hc⟩
  · exact Or.inl (List.append_eq_nil_iff.1 h).1
  · refine Or.inr ⟨b, off, ha, fun j v hj => hc j v ?_⟩
    rw [flatM_append, List.getElem?_append_left (List.getElem?_eq_some_iff.1 hj).1]
    exact hj
theorem mach_bounds (t : Tn) (rule : Int) : (buildOf t rule).1.es.length ≤ 4096 ∧ (buildOf t rule).1.rs.length ≤ 4096 := by
  unfold buildOf
  split
  · exact ⟨Nat.zero_le _, Nat.zero_le _⟩
  split
  · exact ⟨Nat.zero_le _, Nat.zero_le _⟩
  split
  · exact ⟨Nat.zero_le _, Nat.zero_le _⟩
  · rename_i h1 h2 _
    have h3 := lay_bounds (t := t) (by simpa using h1) h2
    unfold mach
    simp only [List.length_set, List.length_replicate]
    omega
theorem union_bounds {Ms : List Ma} (hbE : (unions Ms ⟨1, [], [0]⟩).es.length ≤ 10000000) (hbR : (unions Ms ⟨1, [], [0]⟩).rs.length ≤ 10000000) : (unionOf Ms).1.es.length ≤ 10000000 ∧ (unionOf Ms).1.rs.length ≤ 10000000 := by
  unfold unionOf
  split
  · exact ⟨hbE, hbR⟩
  · exact ⟨Nat.zero_le _, Nat.zero_le _⟩
end Go.Proofs.Ytjmbimgofceanaa
