/- heronlaw07's heavy. -/
import Derived.Test.YtjmbimgofceanaaG26
import Derived.Test.YtjmbimgofceanaaG23
import Derived.Test.YtjmbimgofceanaaG25
import Derived.Test.YtjmbimgofceanaaG16
import Derived.Defers
import Derived.Recover
namespace Go.Proofs.Ytjmbimgofceanaa
open Go.RowKit
attribute [local go_sem ↓] Go.wp_at_zero Go.wp_at_succ

def HeavyPost (w : World) (e : Ending) (w' : World) : Prop := Below w.heap.size w w' ∧ ∃ k : Int, e = .returned (.int .i64 k) ∧ 0 ≤ k ∧ k ≤ 10000
def HeavyV (w0 : World) (v : Nd) : Prop := ∀ (w : World) (b : Int), Below w0.heap.size w0 w → 1 ≤ b → b ≤ 10000 → Calls Try.prog 14 #[v.val, .int .i64 b] w (HeavyPost w)
theorem mul_ten {b x : Int} (h1 : 1 ≤ b) (h2 : b ≤ 10000) (h3 : 1 ≤ x) (h4 : x ≤ 255) : 1 ≤ b * x ∧ b * x ≤ 2550000 := by
  have g1 : 1 * 1 ≤ b * x := Int.mul_le_mul h1 h3 (by omega) (by omega)
  have g2 : b * x ≤ 10000 * 255 := Int.mul_le_mul h2 h4 (by omega) (by omega)
  omega
set_option maxRecDepth 4000 in
set_option maxHeartbeats 8000000 in
theorem heavy_node {w0 : World} {k mn mx : Int} {s : Oct.S} {a : Option Addr} {n c : Nat} {vs : List Nd} (hvl : vs.length = n) (hm : n ≤ 1000000) (hr : RowAt (fun _ => True) w0 a vs) (hs : ∀ (i : Nat) (v : Nd), vs[i]? = some v → HeavyV w0 v) (h5 : k = 5 → (0 ≤ mn ∧ mn ≤ 255) ∧ -1 ≤ mx ∧ mx ≤ 255) : HeavyV w0 ⟨k, s, a, n, c, mn, mx⟩ := by
  intro w b hlow hb1 hb2
  have kk : Below w.heap.size w (w.alloc (.cells #[.int .i64 k, .int .u64 (Oct.word s 0 : Nat), .int .u64 (Oct.word s 1 : Nat), .int .u64 (Oct.word s 2 : Nat), .int .u64 (Oct.word s 3 : Nat), .slice a n c, .int .i64 mn, .int .i64 mx] 30)) := (Below.refl _ _).alloc (Nat.le_refl _) _
  have HNA : Hid (NB (w.alloc (.cells #[.int .i64 k, .int .u64 (Oct.word s 0 : Nat), .int .u64 (Oct.word s 1 : Nat), .int .u64 (Oct.word s 2 : Nat), .int .u64 (Oct.word s 3 : Nat), .slice a n c, .int .i64 mn, .int .i64 mx] 30)) w.heap.size ⟨k, s, a, n, c, mn, mx⟩) := nb_new w ⟨k, s, a, n, c, mn, mx⟩
  have HB : Hid (Below w.heap.size w (w.alloc (.cells #[.int .i64 k, .int .u64 (Oct.word s 0 : Nat), .int .u64 (Oct.word s 1 : Nat), .int .u64 (Oct.word s 2 : Nat), .int .u64 (Oct.word s 3 : Nat), .slice a n c, .int .i64 mn, .int .i64 mx] 30))) := kk
  obtain ⟨w1, hw1⟩ : ∃ w1, w.alloc (.cells #[.int .i64 k, .int .u64 (Oct.word s 0 : Nat), .int .u64 (Oct.word s 1 : Nat), .int .u64 (Oct.word s 2 : Nat), .int .u64 (Oct.word s 3 : Nat), .slice a n c, .int .i64 mn, .int .i64 mx] 30) = w1 := ⟨_, rfl⟩
  rw [hw1] at HNA HB
  obtain ⟨A, hA⟩ : ∃ A, w.heap.size = A := ⟨_, rfl⟩
  rw [hA] at HNA
  have HW1 : Hid (w.alloc (.cells #[.int .i64 k, .int .u64 (Oct.word s 0 : Nat), .int .u64 (Oct.word s 1 : Nat), .int .u64 (Oct.word s 2 : Nat), .int .u64 (Oct.word s 3 : Nat), .slice a n c, .int .i64 mn, .int .i64 mx] 30) = w1) := hw1
  have HAA : Hid (w.heap.size = A) := hA
  have HLW : Hid (Below w0.heap.size w0 w) := hlow
  have HIH : Hid (∀ (i : Nat) (v : Nd), vs[i]? = some v → HeavyV w0 v) := hs
  have HRO : Hid (RowAt (fun _ => True) w0 a vs) := hr
  have HVL : Hid (vs.length = n) := hvl
  have H5 : Hid (k = 5 → (0 ≤ mn ∧ mn ≤ 255) ∧ -1 ≤ mx ∧ mx ≤ 255) := h5
  clear hw1 hA hlow kk hs hr hvl h5
  obtain ⟨y0, y1, y2, y3, y4, y5, y6, y7⟩ := HNA.out.cells
  simp only at y0 y1 y2 y3 y4 y5 y6 y7
  unfold Nd.val
  simp only
  go_enter Try.func14, Try.ntmps14
  go_upto_region 1 with fail
  rw [HW1.out, HAA.out]
  clear HW1
  go_wp2_with fail
  clear y0 y1 y2 y3 y4 y5 y6 y7
  go_loopw [5, 13] (fun v i u => ∃ (j : Nat) (r : Int), v = .int .i64 r ∧ 0 ≤ r ∧ r ≤ 10000 ∧ i = .int .i64 (j : Nat) ∧ j ≤ n ∧ Hid (NB u A ⟨k, s, a, n, c, mn, mx⟩) ∧ Hid (Below w.heap.size w u)) (fun _ i _ => n - (intOf i).toNat)
  case atStart => exact ⟨0, b, rfl, by omega, by omega, rfl, Nat.zero_le _, HNA, HB⟩
  case round =>
    clear HNA HB
    obtain ⟨j, r, rfl, hr0, hr1, rfl, hj, HNr, HBr⟩ := hrel
    by_cases hlt : j < n
    · have hlt' : (j : Int) < (n : Int) := by omega
      obtain ⟨v, hv⟩ : ∃ v, vs[j]? = some v := ⟨_, List.getElem?_eq_getElem (by rw [HVL.out]; exact hlt)⟩
      have HLr : Hid (Below w0.heap.size w0 wr) := below_two HLW.out (below_low HBr.out HLW.out.size)
      have hrow := (HRO.out.keep (w' := wr) (Y := fun _ => True) (fun _ _ _ => trivial) (fun b hb hlt => HLr.out.block b hlt)).nth hv
      obtain ⟨g', off, rfl, e0, e1, e2, e3, e4, e5, e6, e7⟩ := hrow
      have kk : Below wr.heap.size wr (wr.alloc (.cells #[.int .i64 v.k, .int .u64 (Oct.word v.s 0 : Nat), .int .u64 (Oct.word v.s 1 : Nat), .int .u64 (Oct.word v.s 2 : Nat), .int .u64 (Oct.word v.s 3 : Nat), .slice v.a v.n v.c, .int .i64 v.mn, .int .i64 v.mx] 30)) := (Below.refl _ _).alloc (Nat.le_refl _) _
      have HNx : Hid (NB (wr.alloc (.cells #[.int .i64 v.k, .int .u64 (Oct.word v.s 0 : Nat), .int .u64 (Oct.word v.s 1 : Nat), .int .u64 (Oct.word v.s 2 : Nat), .int .u64 (Oct.word v.s 3 : Nat), .slice v.a v.n v.c, .int .i64 v.mn, .int .i64 v.mx] 30)) A ⟨k, s, some ⟨g', off, none⟩, n, c, mn, mx⟩) := HNr.out.later kk
      have HBx : Hid (Below w.heap.size w (wr.alloc (.cells #[.int .i64 v.k, .int .u64 (Oct.word v.s 0 : Nat), .int .u64 (Oct.word v.s 1 : Nat), .int .u64 (Oct.word v.s 2 : Nat), .int .u64 (Oct.word v.s 3 : Nat), .slice v.a v.n v.c, .int .i64 v.mn, .int .i64 v.mx] 30))) := below_step HBr.out kk
      have HLx : Hid (Below w0.heap.size w0 (wr.alloc (.cells #[.int .i64 v.k, .int .u64 (Oct.word v.s 0 : Nat), .int .u64 (Oct.word v.s 1 : Nat), .int .u64 (Oct.word v.s 2 : Nat), .int .u64 (Oct.word v.s 3 : Nat), .slice v.a v.n v.c, .int .i64 v.mn, .int .i64 v.mx] 30))) := below_step HLr.out kk
      have HNV : Hid (NB (wr.alloc (.cells #[.int .i64 v.k, .int .u64 (Oct.word v.s 0 : Nat), .int .u64 (Oct.word v.s 1 : Nat), .int .u64 (Oct.word v.s 2 : Nat), .int .u64 (Oct.word v.s 3 : Nat), .slice v.a v.n v.c, .int .i64 v.mn, .int .i64 v.mx] 30)) wr.heap.size v) := nb_new wr v
      go_upto_region 5 with fail
      obtain ⟨wx, hwx⟩ : ∃ wx, wr.alloc (.cells #[.int .i64 v.k, .int .u64 (Oct.word v.s 0 : Nat), .int .u64 (Oct.word v.s 1 : Nat), .int .u64 (Oct.word v.s 2 : Nat), .int .u64 (Oct.word v.s 3 : Nat), .slice v.a v.n v.c, .int .i64 v.mn, .int .i64 v.mx] 30) = wx := ⟨_, rfl⟩
      obtain ⟨Ax, hAx⟩ : ∃ Ax, wr.heap.size = Ax := ⟨_, rfl⟩
      rw [hwx] at HNx HBx HLx HNV ⊢
      rw [hAx] at HNV ⊢
      clear hwx hAx kk HNr HBr HLr e0 e1 e2 e3 e4 e5 e6 e7
      obtain ⟨y0, y1, y2, y3, y4, y5, y6, y7⟩ := HNx.out.cells
      obtain ⟨z0, z1, z2, z3, z4, z5, z6, z7⟩ := HNV.out.cells
      simp only at y0 y1 y2 y3 y4 y5 y6 y7
      have HIV : Hid (HeavyV w0 v) := HIH.out j v hv
      clear hv
      by_cases hk5 : k = 5
      · obtain ⟨⟨m0, m1⟩, x0, x1⟩ := H5.out hk5
        obtain ⟨X1, hX1⟩ : ∃ X1, max mn mx = X1 := ⟨_, rfl⟩
        obtain ⟨X, hX⟩ : ∃ X, max 1 X1 = X := ⟨_, rfl⟩
        have hXa : 1 ≤ X := by omega
        have hXb : X ≤ 255 := by omega
        obtain ⟨p1, p2⟩ := mul_ten hb1 hb2 hXa hXb
        obtain ⟨P, hP⟩ : ∃ P, b * X = P := ⟨_, rfl⟩
        rw [hP] at p1 p2
        obtain ⟨K, hK⟩ : ∃ K, min 10000 P = K := ⟨_, rfl⟩
        have hKa : 1 ≤ K := by omega
        have hKb : K ≤ 10000 := by omega
        have HC : Hid (Calls Try.prog 14 #[v.val, .int .i64 K] wx _) := HIV.out wx K HLx.out hKa hKb
        unfold Nd.val at HC
        have hkb : (k == 5) = true := by simp [hk5]
        clear hk5 m0 m1 x0 x1
        go_wp2_with fail
        refine HC.out.mono ?_
        rintro e wy ⟨ky, q, rfl, q0, q1⟩
        have HNy : Hid (NB wy A ⟨k, s, some ⟨g', off, none⟩, n, c, mn, mx⟩) := HNx.out.later ky
        have HBy : Hid (Below w.heap.size w wy) := below_step HBx.out ky
        obtain ⟨T, hT⟩ : ∃ T, min 10000 (r + q) = T := ⟨_, rfl⟩
        clear ky HC HNx HBx HLx HNV y0 y1 y2 y3 y4 y5 y6 y7 z0 z1 z2 z3 z4 z5 z6 z7
        go_wp2
        go_roundw
        case rel => exact ⟨j + 1, T, rfl, by omega, by omega, by go_num, by omega, HNy, HBy⟩
        case measure => simp [intOf]; omega
      · have hkb : (k == 5) = false := by simp [hk5]
        have HC : Hid (Calls Try.prog 14 #[v.val, .int .i64 b] wx _) := HIV.out wx b HLx.out hb1 hb2
        unfold Nd.val at HC
        go_wp2_with fail
        refine HC.out.mono ?_
        rintro e wy ⟨ky, q, rfl, q0, q1⟩
        have HNy : Hid (NB wy A ⟨k, s, some ⟨g', off, none⟩, n, c, mn, mx⟩) := HNx.out.later ky
        have HBy : Hid (Below w.heap.size w wy) := below_step HBx.out ky
        obtain ⟨T, hT⟩ : ∃ T, min 10000 (r + q) = T := ⟨_, rfl⟩
        clear ky HC HNx HBx HLx HNV y0 y1 y2 y3 y4 y5 y6 y7 z0 z1 z2 z3 z4 z5 z6 z7
        go_wp2
        go_roundw
        case rel => exact ⟨j + 1, T, rfl, by omega, by omega, by go_num, by omega, HNy, HBy⟩
        case measure => simp [intOf]; omega
    · have hlt' : ¬ (j : Int) < (n : Int) := by omega
      go_wp2
      go_ret
      exact ⟨HBr.out, r, rfl, hr0, hr1⟩
theorem heavy_any {w0 : World} {t : Tn} {x : Nd} (h : InAt w0 t x) : (plc t).2 = true → HeavyV w0 x := by
  induction h with
  | mk k s subs mn mx a n c vs hn hl hm hr hin ih =>
    intro hp
    obtain ⟨hsh, hsub⟩ := plc_subs hp
    refine heavy_node hl hm hr (fun i v hv => ?_) (fun h5 => ?_)
    · have hlt := (List.getElem?_eq_some_iff.1 hv).1
      have ht : subs[i]? = some (subs[i]'(by omega)) := List.getElem?_eq_getElem (by omega)
      exact ih i _ v ht hv (hsub _ (List.mem_of_getElem? ht))
    · subst h5
      obtain ⟨_, h1, h2⟩ := shp_five hsh
      exact ⟨h1, by omega, by omega⟩
end Go.Proofs.Ytjmbimgofceanaa

/- Rows of machines of the call's own. -/
namespace Go.Proofs.Ytjmbimgofceanaa
open Go.RowKit

theorem flatM_length (xs : List Nf) : (flatM xs).length = 3 * xs.length := by
  induction xs with
  | nil => rfl
  | cons x r ih => simp only [flatM, List.flatMap_cons, List.length_append, List.length_cons] at ih ⊢; rw [ih]; simp [Nf.cells]; omega
theorem flatM_append (a b : List Nf) : flatM (a ++ b) = flatM a ++ flatM b := by simp [flatM]
theorem flatM_one (xs : List Nf) : ∀ u ∈ flatM xs, u.oneCell' = true := by
  intro u hu
  obtain ⟨x, _, hx⟩ := List.mem_flatMap.1 hu
  simp only [Nf.cells, List.mem_cons, List.not_mem_nil, or_false] at hx
  rcases hx with rfl | rfl | rfl <;> rfl
def RowM (w : World) (base : Nat) (V : Value) (xs : List Nf) : Prop := w.ownsRow base 38 3 V xs.length (flatM xs)
theorem infoM : (Try.prog.info? 38).map (fun i => (i.zero, i.size, i.bytes)) = some (some (.agg #[.int .i64 0, .slice none 0 0, .slice none 0 0]), 3, 56) := by kernel_rfl
theorem rowM_nil (w : World) (base : Nat) : RowM w base (.slice none 0 0) [] := World.ownsRow_nil w base 38 3
section
variable {w w' : World} {base : Nat} {V : Value} {xs : List Nf}
theorem RowM.ty (h : RowM w base V xs) : ∀ b, V.ownBlock = some b → base ≤ b ∧ TyB w 38 b := by
  intro b hb
  rcases h.2 with ⟨rfl, _⟩ | ⟨g, cap, cur, rfl, hbg, hg, _⟩
  · simp [Value.ownBlock] at hb
  · simp [Value.ownBlock] at hb
    subst hb
    exact ⟨hbg, ⟨_, _, hg⟩⟩
theorem RowM.later (h : RowM w base V xs) (hb : Below w.heap.size w w') : RowM w' base V xs := by
  refine ⟨h.1, ?_⟩
  rcases h.2 with h6 | ⟨g, cap, cur, rfl, hBg, hg, rest⟩
  · exact Or.inl h6
  · exact Or.inr ⟨g, cap, cur, rfl, hBg, (hb.block g (Array.getElem?_eq_some_iff.1 hg).1).trans hg, rest⟩
theorem RowM.form (h : RowM w base V xs) : ∃ a c, V = .slice a xs.length c ∧ xs.length ≤ c ∧ c ≤ maxLen ∧ LAt w a xs := by
  rcases h.2 with ⟨hv, hn⟩ | ⟨g, cap, cur, hv, hbg, hg, h1, h2, h3, h4⟩
  · exact ⟨none, 0, by rw [hv, hn], by omega, by decide, Or.inl (List.length_eq_zero_iff.1 hn)⟩
  · refine ⟨_, _, hv, h1, h2, Or.inr ⟨g, 0, rfl, fun j v hj => ?_⟩⟩
    have hlt := (List.getElem?_eq_some_iff.1 hj).1
    rw [flatM_length] at hlt
    rw [← h4, List.getElem?_take_of_lt (by omega)] at hj
    simp only [World.cell?, hg, Nat.zero_add]
    simpa using hj
end
theorem wpList_append_nf {w : World} {ops : Array Oper} {rest : List Oper} {o : Oper} {a : Act} {Q : Exit → Act → World → Prop} (hgd : o.guard = none) (s y : Operand)
    (ho : o.op = .call { callee := .builtin .append, args := #[s, y], argTypes := #[48, 48] })
    (base n : Nat) (V : Value) (xs : List Nf) (hs : a.eval s = V) (hlen : xs.length = n) (hn : RowM w base V xs) (ad : Addr) (cap : Nat) (x : Nf) (hy : a.eval y = .slice (some ad) 1 cap) (hc : ∀ j v, x.cells[j]? = some v → w.cell? (ad.add j) = some v) (hl : n ≤ 20000000) (hb : base ≤ w.heap.size)
    (h : ∀ g cap' w', RowM w' base (.slice (some ⟨g, 0, none⟩) (n + 1) cap') (xs ++ [x]) → w.grownBy w' V.ownBlock → wpList Try.prog ops Q rest (a.put o.dst (.slice (some ⟨g, 0, none⟩) (n + 1) cap')) w') : wpList Try.prog ops Q (o :: rest) a w := by
  refine wpList_plain hgd fun K hK => ?_
  subst hlen
  obtain ⟨i0, hi, hz0, hz1, hz2⟩ := info_parts infoM
  obtain ⟨g, cap', w', hr, ho2, hg, hgg, hlt⟩ := run_append_lies (P := Try.prog) w 48 o.type base 38 i0 _ 3 56 Try.underlying48 hi hz0 hz1 hz2 rfl (by decide) V xs.length _ hn ad 1 cap x.cells rfl hc
    (by have := flatM_one [x]; simpa [flatM] using this) (by decide) (by simp only [maxLen]; omega) (by omega) hb w.heap.size rfl
  unfold Oper.wp execOp
  simp only [ho, resolve, invoke, builtin, Sem.run_bind, Sem.run_pure, Result.andThen_ok, List.map_toArray, List.map_cons, List.map_nil, hs, hy, hr]
  refine hK _ _ (h g cap' w' ?_ hg)
  unfold RowM
  rw [List.length_append, flatM_append]
  have e : flatM [x] = x.cells := by simp [flatM]
  rw [e]
  exact ho2
/-- THE COPIES OF A LIST OF MACHINES. -/
def Cops (w : World) (base : Nat) (Ms : List Ma) (ys : List Nf) : Prop := ∀ (i : Nat) (M : Ma) (y : Nf), Ms[i]? = some M → ys[i]? = some y → Cop (fun b => base ≤ b ∧ ¬ TyB w 38 b) w M y
theorem Cops.later {w w' : World} {base : Nat} {Ms : List Ma} {ys : List Nf} (h : Cops w base Ms ys) (hb : Below w.heap.size w w') : Cops w' base Ms ys := fun i M y hM hy =>
  (h i M y hM hy).keep (fun b hX hlt => ⟨hX.1, fun ht => hX.2 (ht.same (hb.block b hlt).symm)⟩) (fun b _ hlt => hb.block b hlt)
theorem Cops.grown {w w' : World} {base : Nat} {Ms : List Ma} {ys : List Nf} (h : Cops w base Ms ys) {r : Option Nat} (hg : w.grownBy w' r) (hr : ∀ k, r = some k → TyB w 38 k) : Cops w' base Ms ys := fun i M y hM hy => by
  have hst : ∀ b, ¬ TyB w 38 b → b < w.heap.size → w'.heap[b]? = w.heap[b]? := fun b hn hlt => hg.block b hlt (fun e => hn (hr b e.symm))
  exact (h i M y hM hy).keep (fun b hX hlt => ⟨hX.1, fun ht => hX.2 (ht.same (hst b hX.2 hlt).symm)⟩) (fun b hX hlt => hst b hX.2 hlt)
theorem Cops.snoc {w : World} {base : Nat} {Ms : List Ma} {ys : List Nf} {M : Ma} {y : Nf} (h : Cops w base Ms ys) (hM : Ms[ys.length]? = some M) (hc : Cop (fun b => base ≤ b ∧ ¬ TyB w 38 b) w M y) : Cops w base Ms (ys ++ [y]) := fun i M' y' hM' hy' => by
  by_cases hi : i < ys.length
  · rw [List.getElem?_append_left hi] at hy'
    exact h i M' y' hM' hy'
  · rw [List.getElem?_append_right (by omega)] at hy'
    have hi2 : i = ys.length := by
      have := (List.getElem?_eq_some_iff.1 hy').1
      simp at this
      omega
    subst hi2
    simp at hy'
    subst hy'
    rw [hM] at hM'
    cases hM'
    exact hc
theorem Cops.list {w : World} {base : Nat} {Ms : List Ma} {ys : List Nf} {a : Option Addr} (h : Cops w base Ms ys) (hl : ys.length = Ms.length) (ha : LAt w a ys) : ListAt w a Ms ys :=
  ⟨ha, hl, fun i M y hM hy => (h i M y hM hy).ma.keep (fun _ _ _ => trivial) (fun _ _ _ => rfl)⟩
theorem LAt.front {w : World} {a : Option Addr} {xs ys : List Nf} (h : LAt w a (xs ++ ys)) : LAt w a xs := by
  rcases h with h | ⟨b, off, ha, hc⟩
  · exact Or.inl (List.append_eq_nil_iff.1 h).1
  · refine Or.inr ⟨b, off, ha, fun j v hj => hc j v ?_⟩
    rw [flatM_append, List.getElem?_append_left (List.getElem?_eq_some_iff.1 hj).1]
    exact hj
theorem mach_bounds (t : Tn) (rule : Int) : (buildOf t rule).1.es.length ≤ 4096 ∧ (buildOf t rule).1.rs.length ≤ 4096 := by
  unfold buildOf
  split
  · exact ⟨Nat.zero_le _, Nat.zero_le _⟩
  split
  · exact ⟨Nat.zero_le _, Nat.zero_le _⟩
  split
  · exact ⟨Nat.zero_le _, Nat.zero_le _⟩
  · rename_i h1 h2 _
    have h3 := lay_bounds (t := t) (by simpa using h1) h2
    unfold mach
    simp only [List.length_set, List.length_replicate]
    omega
theorem union_bounds {Ms : List Ma} (hbE : (unions Ms ⟨1, [], [0]⟩).es.length ≤ 10000000) (hbR : (unions Ms ⟨1, [], [0]⟩).rs.length ≤ 10000000) : (unionOf Ms).1.es.length ≤ 10000000 ∧ (unionOf Ms).1.rs.length ≤ 10000000 := by
  unfold unionOf
  split
  · exact ⟨hbE, hbR⟩
  · exact ⟨Nat.zero_le _, Nat.zero_le _⟩
end Go.Proofs.Ytjmbimgofceanaa

/- A union's walk: its machines' rules, or-ed. -/
namespace Go.Proofs.Ytjmbimgofceanaa
open Go.RowKit

/-- A MACHINE THAT FITS, and the rules that it meets in a line. -/
structure Wk (line : ByteArray) (M : Ma) (R : Nat) : Prop where
  s : M.S = (M.rs.length : Nat)
  one : 1 ≤ M.rs.length
  inr : InR M.es M.rs.length
  w : Walks M M.rs.length line 0 (List.replicate M.rs.length false) 0 R
theorem Wk.add {line : ByteArray} {o M : Ma} {Ro Rm : Nat} (h : Wk line o Ro) (h2 : Wk line M Rm) : Wk line (addM o M) (Ro ||| Rm) := by
  have e : (addM o M).rs.length = o.rs.length + M.rs.length := by simp [addM]
  refine ⟨?_, by have := h.one; omega, ?_, ?_⟩
  · rw [e]
    show o.S + M.S = _
    rw [h.s, h2.s]
    omega
  · rw [e, add_es h.s]
    intro y hy
    have h1 := h.one
    rcases List.mem_append.1 hy with hy | hy
    · rcases List.mem_append.1 hy with hy | hy
      · have := h.inr y hy
        omega
      · simp at hy
        subst hy
        have := h2.one
        simp only
        omega
    · obtain ⟨z, hz, rfl⟩ := List.mem_map.1 hy
      have := h2.inr z hz
      simp only [shiftE]
      omega
  · have := add_walks h.s rfl h.one h2.one h.inr h2.inr h.w (List.replicate M.rs.length false) 0 Rm (by simp) (by simp) h2.w
    rw [List.replicate_append_replicate] at this
    rw [e]
    exact this
theorem Wk.unions {line : ByteArray} : ∀ (Ms : List Ma) (Rs : List Nat) (o : Ma) (Ro : Nat), Ms.length = Rs.length → (∀ (i : Nat) (M : Ma) (R : Nat), Ms[i]? = some M → Rs[i]? = some R → Wk line M R) → Wk line o Ro → Wk line (unions Ms o) (Rs.foldl (· ||| ·) Ro)
  | [], [], _, _, _, _, h => by rw [Go.Proofs.Ytjmbimgofceanaa.unions]; exact h
  | M :: Ms, R :: Rs, o, Ro, hl, hw, h => by
    rw [Go.Proofs.Ytjmbimgofceanaa.unions, List.foldl_cons]
    exact Wk.unions Ms Rs (addM o M) (Ro ||| R) (by simpa using hl) (fun i M' R' h1 h2 => hw (i + 1) M' R' (by simpa using h1) (by simpa using h2)) (h.add (hw 0 M R rfl rfl))
theorem clo_one (b e c : Bool) : Clo [] b e ([c].set 0 true) [true] :=
  ⟨⟨rfl, fun i hi => hi⟩, (fun x hx => by cases hx), fun k h1 _ => h1⟩
theorem one_walks (line : ByteArray) : ∀ (d i : Nat), line.size - i = d → i ≤ line.size → ∀ c : Bool, Walks ⟨1, [], [0]⟩ 1 line i [c] 0 0
  | 0, i, hd, hi, c => by
    have h := Walks.last (M := ⟨1, [], [0]⟩) (S := 1) (line := line) i [c] [true] 0 (by omega) (clo_one _ _ c)
    exact h
  | d + 1, i, hd, hi, c => by
    refine .step i [c] [true] 0 0 (by omega) (clo_one _ _ c) ?_
    exact one_walks line d (i + 1) (by omega) (by omega) false
theorem wk_one (line : ByteArray) : Wk line ⟨1, [], [0]⟩ 0 := ⟨rfl, by decide, (fun y hy => by cases hy), one_walks line line.size 0 (by omega) (Nat.zero_le _) false⟩
theorem foldl_or_comm (Rs : List Nat) : ∀ a b, Rs.foldl (· ||| ·) (a ||| b) = a ||| Rs.foldl (· ||| ·) b := by
  induction Rs with
  | nil => intro a b; rfl
  | cons r Rs ih => intro a b; simp only [List.foldl_cons, Nat.or_assoc]; exact ih a (b ||| r)
theorem foldl_or_snoc (Rs : List Nat) (r a : Nat) : (Rs ++ [r]).foldl (· ||| ·) a = Rs.foldl (· ||| ·) a ||| r := by rw [List.foldl_append]; rfl
theorem foldl_or_rev (Rs : List Nat) : Rs.reverse.foldl (· ||| ·) 0 = Rs.foldl (· ||| ·) 0 := by
  induction Rs with
  | nil => rfl
  | cons r Rs ih =>
    rw [List.reverse_cons, foldl_or_snoc, ih, List.foldl_cons, Nat.zero_or, Nat.or_comm, ← foldl_or_comm, Nat.or_zero]
theorem run_append_nfs (w : World) (ty : TypeId) (base g n c : Nat) (xs : List Nf) (hn : xs.length = n) (hown : RowM w base (.slice (some ⟨g, 0, none⟩) n c) xs) (a : Option Addr) (m cap : Nat) (ys : List Nf) (hm : ys.length = m) (hf : LAt w a ys) (hl : n + m ≤ 20000000) (hb : base ≤ w.heap.size) :
    ∃ g' c' w', (Builtin.append_ #[48, 48] ty #[.slice (some ⟨g, 0, none⟩) n c, .slice a m cap]).run Try.prog w = .ok (.slice (some ⟨g', 0, none⟩) (n + m) c') w' ∧ RowM w' base (.slice (some ⟨g', 0, none⟩) (n + m) c') (xs ++ ys) ∧ w.grownBy w' (some g) := by
  obtain ⟨i0, hi, hz0, hz1, hz2⟩ := info_parts infoM
  subst hn hm
  by_cases hf0 : ys.length = 0
  · have hf1 : ys = [] := List.length_eq_zero_iff.1 hf0
    subst hf1
    obtain ⟨a2, c2, hV, hc1, _⟩ := hown.form
    cases hV
    have hs : Src Try.prog i0.size 48 (.slice a 0 cap) 0 [] w := by
      cases a with
      | none => exact Src.ofNil w Try.underlying48 cap
      | some ad => exact Src.ofSlice w Try.underlying48 ad 0 cap [] (by simp) (fun j u hj => by simp at hj) (fun u hu => by cases hu)
    have hr := run_append_room_src (P := Try.prog) w 48 48 ty 38 i0 Try.underlying48 hi g 0 xs.length c (.slice a 0 cap) 0 [] hs (by omega) (fun j hj => by simp at hj) (fun j hj => by simp at hj)
    exact ⟨g, c, _, hr, by simpa [World.setCells] using hown, by simpa [World.setCells] using (⟨rfl, rfl, rfl, Nat.le_refl _, fun _ _ _ => rfl⟩ : w.grownBy w _)⟩
  · rcases hf with rfl | ⟨b, off, rfl, hc⟩
    · exact absurd rfl hf0
    · obtain ⟨g', c', w', hr, ho, hg, hgg, hlt⟩ := run_append_lies (P := Try.prog) w 48 ty base 38 i0 _ 3 56 Try.underlying48 hi hz0 hz1 hz2 rfl (by decide) _ xs.length _ hown ⟨b, off, none⟩ ys.length cap (flatM ys) (by rw [flatM_length, Nat.mul_comm])
        (fun j v hj => by rw [Go.WideShapes.add_plain]; exact hc j v hj) (flatM_one ys) (by omega) (by simp only [maxLen]; omega) (by omega) hb w.heap.size rfl
      refine ⟨g', c', w', hr, ?_, hg⟩
      unfold RowM
      rw [List.length_append, flatM_append]
      exact ho
end Go.Proofs.Ytjmbimgofceanaa

/- ere.read's deferred function. -/
namespace Go.Proofs.Ytjmbimgofceanaa
open Go.RowKit
attribute [local go_sem ↓] Go.wp_at_zero Go.wp_at_succ
theorem eq20_nil (w : World) : (binOp .eql 20 .nilIface .nilIface).run Try.prog w = .ok (.bool true) w := by kernel_rfl
theorem eq20_some (v : Value) (w : World) : (binOp .eql 20 (.iface 82 v) .nilIface).run Try.prog w = .ok (.bool false) w := by kernel_rfl
theorem catch_idle (p q r : Addr) (w : World) :
    CallsD Try.prog 43 #[.pointer (some p), .pointer (some q), .pointer (some r)] .returning w fun e u' w' => e = .returned (.tuple #[]) ∧ u' = .returning ∧ w' = w := by
  have q20 := eq20_nil
  refine callsD_of_wpS Try.func43 rfl fun c₀ cs hu => ?_
  apply wpS_seq
  apply wpS_region
  simp [wpOpsS, go_sem, recoverD, hu, Try.ntmps43, Exit.thenS]
  apply wpS_seq
  apply wpS_seq
  apply wpS_region
  simp [wpOpsS, go_sem, Exit.thenS, q20]
  refine wpS_cond (t := true) (by simp [Act.eval, Array.replicate]) ?_
  simp only [if_true]
  refine wpS_of_wp (wp_ret ?_)
  cases c₀
  simp_all [bodyPostS, results, Try.results43, Exit.thenS]
end Go.Proofs.Ytjmbimgofceanaa

/- ere.read's deferred function, where it catches a fault. -/
namespace Go.Proofs.Ytjmbimgofceanaa
open Go.RowKit

/-- a box of an integer -/
def IB (w : World) (A : Nat) (t : TypeId) (v : Int) : Prop := w.heap[A]? = some (.cells #[.int .i64 v] t (0, 0))
theorem IB.lt {w : World} {A : Nat} {t : TypeId} {v : Int} (h : IB w A t v) : A < w.heap.size := (Array.getElem?_eq_some_iff.1 h).1
theorem IB.later {w w' : World} {A : Nat} {t : TypeId} {v : Int} (h : IB w A t v) (hb : Below w.heap.size w w') : IB w' A t v := (hb.block A h.lt).trans h
theorem IB.grown {w w' : World} {A : Nat} {t : TypeId} {v : Int} {r : Option Nat} (h : IB w A t v) (hg : w.grownBy w' r) (hne : some A ≠ r) : IB w' A t v := (hg.block A h.lt hne).trans h
theorem IB.cell {w : World} {A : Nat} {t : TypeId} {v : Int} (h : IB w A t v) : w.cell? ⟨A, 0, none⟩ = some (.int .i64 v) := by
  unfold IB at h
  simp [World.cell?, h]
theorem IB.frozen {w : World} {A : Nat} {t : TypeId} {v : Int} (h : IB w A t v) : w.frozen? ⟨A, 0, none⟩ = false := by
  unfold IB at h
  simp [World.frozen?, h]
theorem IB.put {w : World} {A : Nat} {t : TypeId} {v : Int} (h : IB w A t v) (x : Int) : IB (w.setCell ⟨A, 0, none⟩ (.int .i64 x)) A t x := by
  have := heap_set h 0 (.int .i64 x)
  unfold IB
  rw [this]
  rfl
theorem IB.other {w : World} {A B : Nat} {t : TypeId} {v : Int} (h : IB w A t v) (hne : A ≠ B) (j : Nat) (x : Value) : IB (w.setCell ⟨B, j, none⟩ x) A t v := by
  unfold IB at h ⊢
  rw [Below.heap_setCell w ⟨B, j, none⟩ x A hne]
  exact h
theorem IB.put8 {w : World} {A B : Nat} {t : TypeId} {v : Int} (h : IB w A t v) (hne : A ≠ B) (x : Nd) : IB (put8 w B x) A t v := by
  unfold IB at h ⊢
  rw [heap_put8 w B x A hne]
  exact h
/-- the fault's box -/
def FB (w : World) (A i e : Nat) : Prop := w.heap[A]? = some (.cells #[.int .i64 (i : Nat), .int .i64 (e : Nat)] 82 (0, 0))
theorem FB.other {w : World} {A B i e : Nat} (h : FB w A i e) (hne : A ≠ B) (j : Nat) (x : Value) : FB (w.setCell ⟨B, j, none⟩ x) A i e := by
  unfold FB at h ⊢
  rw [Below.heap_setCell w ⟨B, j, none⟩ x A hne]
  exact h
theorem FB.put8 {w : World} {A B i e : Nat} (h : FB w A i e) (hne : A ≠ B) (x : Nd) : FB (put8 w B x) A i e := by
  unfold FB at h ⊢
  rw [heap_put8 w B x A hne]
  exact h
theorem FB.cells {w : World} {A i e : Nat} (h : FB w A i e) : w.cell? ⟨A, 0, none⟩ = some (.int .i64 (i : Nat)) ∧ w.cell? ⟨A, 1, none⟩ = some (.int .i64 (e : Nat)) := by
  unfold FB at h
  simp [World.cell?, h]
/-- THE STATE inside the last region -/
structure In5 (W : World) (n TB P E F i e : Nat) (x : Nd) (o1 o2 : Int) (act : Act) (L : Nat → Bool) (a : Act) (u : World) : Prop where
  sz : a.tmps.size = 22
  df : a.defers = act.defers
  fr : ∀ k, k < 17 → a.tmps[k]? = act.tmps[k]?
  v0 : L 0 = true → T a 17 = .agg #[.int .i64 0, .int .u64 0, .int .u64 0, .int .u64 0, .int .u64 0, .slice none 0 0, .int .i64 0, .int .i64 0]
  v1 : L 1 = true → T a 18 = .pointer (some ⟨F, 0, none⟩)
  v2 : L 2 = true → T a 19 = .int .i64 (i : Nat)
  v3 : L 3 = true → T a 20 = .pointer (some ⟨F, 1, none⟩)
  v4 : L 4 = true → T a 21 = .int .i64 (e : Nat)
  fb : FB u F i e
  nb : NB u TB (if L 5 then zeroNd else x)
  pb : IB u P 3 (if L 6 then (i : Int) else o1)
  eb : IB u E 31 (if L 7 then (e : Int) else o2)
  be : Below n W u
theorem put_fr {act a : Act} (h : ∀ k, k < 17 → a.tmps[k]? = act.tmps[k]?) {d : Nat} (hd : 17 ≤ d) (v : Value) : ∀ k, k < 17 → (a.put (some d) v).tmps[k]? = act.tmps[k]? := fun k hk => by
  simp only [Act.put]
  rw [Array.getElem?_setIfInBounds_ne (by omega)]
  exact h k hk
set_option maxRecDepth 100000 in
set_option maxHeartbeats 2000000 in
theorem reg5 {act : Act} {n TB P E F i e : Nat} {x : Nd} {o1 o2 : Int} {W : World} {Q : Exit → Act → World → Prop}
    (hT0 : T act 0 = .pointer (some ⟨TB, 0, none⟩)) (hT1 : T act 1 = .pointer (some ⟨P, 0, none⟩)) (hT2 : T act 2 = .pointer (some ⟨E, 0, none⟩)) (hT4 : T act 4 = .pointer (some ⟨F, 0, none⟩)) (hsz : act.tmps.size = 22)
    (h1 : TB ≠ P) (h2 : TB ≠ E) (h3 : P ≠ E) (f1 : F ≠ TB) (f2 : F ≠ P) (f3 : F ≠ E) (k1 : n ≤ TB) (k2 : n ≤ P) (k3 : n ≤ E)
    (hF : FB W F i e) (hN : NB W TB x) (hP : IB W P 3 o1) (hE : IB W E 31 o2)
    (K : ∀ a' W', a'.defers = act.defers → NB W' TB zeroNd → IB W' P 3 i → IB W' E 31 e → Below n W W' → Q .normal a' W') : (Code.region 5 (opsOf Try.f43 5) true).wp Try.prog Q act W := by
  refine wp_region_inv (by kernel_rfl) (In5 W n TB P E F i e x o1 o2 act) ?wf ?step ?fin ?zero
  case zero =>
    intro L hL
    have l0 := hL 0 (by decide)
    have l1 := hL 1 (by decide)
    have l2 := hL 2 (by decide)
    have l3 := hL 3 (by decide)
    have l4 := hL 4 (by decide)
    have l5 := hL 5 (by decide)
    have l6 := hL 6 (by decide)
    have l7 := hL 7 (by decide)
    exact ⟨hsz, rfl, fun _ _ => rfl, by simp [l0], by simp [l1], by simp [l2], by simp [l3], by simp [l4], hF, by rw [l5]; exact hN, by rw [l6]; exact hP, by rw [l7]; exact hE, (Below.refl _ _).drew⟩
  case fin =>
    intro L a u hL hI
    have b1 := hI.nb
    have b2 := hI.pb
    have b3 := hI.eb
    rw [hL 5 (by decide)] at b1
    rw [hL 6 (by decide)] at b2
    rw [hL 7 (by decide)] at b3
    exact K a u hI.df b1 b2 b3 hI.be
  case wf =>
    have h : AllFrom (fun i o => ∀ e ∈ o.after, Region.binds .any e = true → e.on < i) 0 (opsOf Try.f43 5).toList := by
      refine ⟨by simp, by simp [Region.binds], by simp [Region.binds], by simp [Region.binds], by simp [Region.binds], by simp [Region.binds], by simp [Region.binds], by simp [Region.binds], trivial⟩
    intro i o e ho he hb
    have := allFrom_at h i o (by simpa using ho) e he hb
    omega
  case step =>
    have h : AllFrom (fun k p => p.guard = none ∧ ∀ L a u, In5 W n TB P E F i e x o1 o2 act L a u → L k = false → (∀ e ∈ p.after, Region.binds .any e = true → L e.on = true) → p.wp Try.prog a u (fun a' w' => In5 W n TB P E F i e x o1 o2 act (more L k) a' w') Q) 0 (opsOf Try.f43 5).toList := by
      refine ⟨⟨rfl, fun L a u hI hk hE => ?s0⟩, ⟨rfl, fun L a u hI hk hE => ?s1⟩, ⟨rfl, fun L a u hI hk hE => ?s2⟩, ⟨rfl, fun L a u hI hk hE => ?s3⟩, ⟨rfl, fun L a u hI hk hE => ?s4⟩, ⟨rfl, fun L a u hI hk hE => ?s5⟩, ⟨rfl, fun L a u hI hk hE => ?s6⟩, ⟨rfl, fun L a u hI hk hE => ?s7⟩, trivial⟩
      case s0 =>
        refine ob_plain (v := .agg #[.int .i64 0, .int .u64 0, .int .u64 0, .int .u64 0, .int .u64 0, .slice none 0 0, .int .i64 0, .int .i64 0]) (w' := u) ?_ ?_
        · simp [execOp, Act.eval, go_sem]
        · exact ⟨by simpa [Act.put] using hI.sz, hI.df, put_fr hI.fr (by decide) _, fun _ => T_put (by rw [hI.sz]; decide), fun h => (T_put' (by decide)).trans (hI.v1 (by simpa [more] using h)), fun h => (T_put' (by decide)).trans (hI.v2 (by simpa [more] using h)), fun h => (T_put' (by decide)).trans (hI.v3 (by simpa [more] using h)), fun h => (T_put' (by decide)).trans (hI.v4 (by simpa [more] using h)), hI.fb, by simpa [more] using hI.nb, by simpa [more] using hI.pb, by simpa [more] using hI.eb, hI.be⟩
      case s1 =>
        have hx := (show T a 4 = T act 4 by unfold T; rw [hI.fr 4 (by decide)]).trans hT4
        refine ob_plain (v := .pointer (some ⟨F, 0, none⟩)) (w' := u) ?_ ?_
        · unfold T at hx
          simp [execOp, Act.eval, hx, go_sem]
        · exact ⟨by simpa [Act.put] using hI.sz, hI.df, put_fr hI.fr (by decide) _, fun h => (T_put' (by decide)).trans (hI.v0 (by simpa [more] using h)), fun _ => T_put (by rw [hI.sz]; decide), fun h => (T_put' (by decide)).trans (hI.v2 (by simpa [more] using h)), fun h => (T_put' (by decide)).trans (hI.v3 (by simpa [more] using h)), fun h => (T_put' (by decide)).trans (hI.v4 (by simpa [more] using h)), hI.fb, by simpa [more] using hI.nb, by simpa [more] using hI.pb, by simpa [more] using hI.eb, hI.be⟩
      case s2 =>
        have hx := hI.v1 (hE ⟨1, .data⟩ (by simp) rfl)
        have c0 := hI.fb.cells.1
        refine ob_plain (v := .int .i64 (i : Nat)) (w' := u) ?_ ?_
        · unfold T at hx
          simp [execOp, Act.eval, hx, go_sem, c0]
        · exact ⟨by simpa [Act.put] using hI.sz, hI.df, put_fr hI.fr (by decide) _, fun h => (T_put' (by decide)).trans (hI.v0 (by simpa [more] using h)), fun h => (T_put' (by decide)).trans (hI.v1 (by simpa [more] using h)), fun _ => T_put (by rw [hI.sz]; decide), fun h => (T_put' (by decide)).trans (hI.v3 (by simpa [more] using h)), fun h => (T_put' (by decide)).trans (hI.v4 (by simpa [more] using h)), hI.fb, by simpa [more] using hI.nb, by simpa [more] using hI.pb, by simpa [more] using hI.eb, hI.be⟩
      case s3 =>
        have hx := (show T a 4 = T act 4 by unfold T; rw [hI.fr 4 (by decide)]).trans hT4
        refine ob_plain (v := .pointer (some ⟨F, 1, none⟩)) (w' := u) ?_ ?_
        · unfold T at hx
          simp [execOp, Act.eval, hx, go_sem]
        · exact ⟨by simpa [Act.put] using hI.sz, hI.df, put_fr hI.fr (by decide) _, fun h => (T_put' (by decide)).trans (hI.v0 (by simpa [more] using h)), fun h => (T_put' (by decide)).trans (hI.v1 (by simpa [more] using h)), fun h => (T_put' (by decide)).trans (hI.v2 (by simpa [more] using h)), fun _ => T_put (by rw [hI.sz]; decide), fun h => (T_put' (by decide)).trans (hI.v4 (by simpa [more] using h)), hI.fb, by simpa [more] using hI.nb, by simpa [more] using hI.pb, by simpa [more] using hI.eb, hI.be⟩
      case s4 =>
        have hx := hI.v3 (hE ⟨3, .data⟩ (by simp) rfl)
        have c0 := hI.fb.cells.2
        refine ob_plain (v := .int .i64 (e : Nat)) (w' := u) ?_ ?_
        · unfold T at hx
          simp [execOp, Act.eval, hx, go_sem, c0]
        · exact ⟨by simpa [Act.put] using hI.sz, hI.df, put_fr hI.fr (by decide) _, fun h => (T_put' (by decide)).trans (hI.v0 (by simpa [more] using h)), fun h => (T_put' (by decide)).trans (hI.v1 (by simpa [more] using h)), fun h => (T_put' (by decide)).trans (hI.v2 (by simpa [more] using h)), fun h => (T_put' (by decide)).trans (hI.v3 (by simpa [more] using h)), fun _ => T_put (by rw [hI.sz]; decide), hI.fb, by simpa [more] using hI.nb, by simpa [more] using hI.pb, by simpa [more] using hI.eb, hI.be⟩
      case s5 =>
        have hv := hI.v0 (hE ⟨0, .data⟩ (by simp) rfl)
        have hp := (show T a 0 = T act 0 by unfold T; rw [hI.fr 0 (by decide)]).trans hT0
        have hk : L 5 = false := hk
        have hnb := hI.nb
        rw [hk] at hnb
        obtain ⟨t0, t1, t2, t3, t4, t5, t6, t7⟩ := hnb.cells
        have y0 := hnb.frozen 0
        have y1 := hnb.frozen 1
        have y2 := hnb.frozen 2
        have y3 := hnb.frozen 3
        have y4 := hnb.frozen 4
        have y5 := hnb.frozen 5
        have y6 := hnb.frozen 6
        have y7 := hnb.frozen 7
        refine ob_skip (w' := put8z u TB 0 none 0 0 0 0) ?_ ?_
        · unfold T at hv hp
          simp [execOp, Act.eval, hv, hp, go_sem, t0, t1, t2, t3, t4, t5, t6, t7, y0, y1, y2, y3, y4, y5, y6, y7, put8z]
        · rw [put8z_eq]
          exact ⟨hI.sz, hI.df, hI.fr, fun h => hI.v0 (by simpa [more] using h), fun h => hI.v1 (by simpa [more] using h), fun h => hI.v2 (by simpa [more] using h), fun h => hI.v3 (by simpa [more] using h), fun h => hI.v4 (by simpa [more] using h), hI.fb.put8 f1 _, by simp only [more, if_true]; exact hnb.put8 _, by simpa [more] using hI.pb.put8 h1.symm _, by simpa [more] using hI.eb.put8 h2.symm _, below_put8 hI.be k1 _⟩
      case s6 =>
        have hv := hI.v2 (hE ⟨2, .data⟩ (by simp) rfl)
        have hp := (show T a 1 = T act 1 by unfold T; rw [hI.fr 1 (by decide)]).trans hT1
        have t0 := hI.pb.cell
        have y0 := hI.pb.frozen
        refine ob_skip (w' := u.setCell ⟨P, 0, none⟩ (.int .i64 (i : Nat))) ?_ ?_
        · unfold T at hv hp
          simp [execOp, Act.eval, hv, hp, go_sem, t0, y0]
        · exact ⟨hI.sz, hI.df, hI.fr, fun h => hI.v0 (by simpa [more] using h), fun h => hI.v1 (by simpa [more] using h), fun h => hI.v2 (by simpa [more] using h), fun h => hI.v3 (by simpa [more] using h), fun h => hI.v4 (by simpa [more] using h), hI.fb.other f2 _ _, by simpa [more] using hI.nb.set h1 0 (.int .i64 (i : Nat)), by simpa [more] using hI.pb.put (i : Nat), by simpa [more] using hI.eb.other h3.symm 0 (.int .i64 (i : Nat)), hI.be.setCell (p := ⟨P, 0, none⟩) k2 _⟩
      case s7 =>
        have hv := hI.v4 (hE ⟨4, .data⟩ (by simp) rfl)
        have hp := (show T a 2 = T act 2 by unfold T; rw [hI.fr 2 (by decide)]).trans hT2
        have t0 := hI.eb.cell
        have y0 := hI.eb.frozen
        refine ob_skip (w' := u.setCell ⟨E, 0, none⟩ (.int .i64 (e : Nat))) ?_ ?_
        · unfold T at hv hp
          simp [execOp, Act.eval, hv, hp, go_sem, t0, y0]
        · exact ⟨hI.sz, hI.df, hI.fr, fun h => hI.v0 (by simpa [more] using h), fun h => hI.v1 (by simpa [more] using h), fun h => hI.v2 (by simpa [more] using h), fun h => hI.v3 (by simpa [more] using h), fun h => hI.v4 (by simpa [more] using h), hI.fb.other f3 _ _, by simpa [more] using hI.nb.set h2 0 (.int .i64 (e : Nat)), by simpa [more] using hI.pb.other h3 0 (.int .i64 (e : Nat)), by simpa [more] using hI.eb.put (e : Nat), hI.be.setCell (p := ⟨E, 0, none⟩) k3 _⟩
    intro k p hp
    have := allFrom_at h k p (by simpa using hp)
    rwa [Nat.zero_add] at this
end Go.Proofs.Ytjmbimgofceanaa

/- ere.read's deferred function: both ways. -/
namespace Go.Proofs.Ytjmbimgofceanaa
open Go.RowKit

theorem ta61 (v : Value) (w : World) : (Instr.typeAssert (.iface 82 v) 20 82 true).run Try.prog w = .ok (.tuple #[v, .bool true]) w := by kernel_rfl
theorem fb_new (w : World) (i e : Nat) : FB (w.alloc (.cells #[.int .i64 (i : Nat), .int .i64 (e : Nat)] 82)) w.heap.size i e := heap_alloc_new w _
set_option maxRecDepth 4000 in
set_option maxHeartbeats 4000000 in
theorem catch_panicking (TB P E : Nat) (i e : Nat) (x : Nd) (o1 o2 : Int) (w : World) (hT : NB w TB x) (hP : IB w P 3 o1) (hE : IB w E 31 o2) (h1 : TB ≠ P) (h2 : TB ≠ E) (h3 : P ≠ E) (n : Nat) (k1 : n ≤ TB) (k2 : n ≤ P) (k3 : n ≤ E) (hn : n ≤ w.heap.size) :
    CallsD Try.prog 43 #[.pointer (some ⟨TB, 0, none⟩), .pointer (some ⟨P, 0, none⟩), .pointer (some ⟨E, 0, none⟩)] (.panicking [{ v := flt i e, recovered := false }]) w fun r u' w' =>
      r = .returned (.tuple #[]) ∧ u' = .panicking [{ v := flt i e, recovered := true }] ∧ NB w' TB zeroNd ∧ IB w' P 3 i ∧ IB w' E 31 e ∧ Below n w w' := by
  have q20 := eq20_some
  have ta := ta61
  have hal := (Below.refl w.heap.size w).alloc (Nat.le_refl _) (.cells #[.int .i64 (i : Nat), .int .i64 (e : Nat)] 82)
  have hbn : Below n w (w.alloc (.cells #[.int .i64 (i : Nat), .int .i64 (e : Nat)] 82)) := (Below.refl n w).alloc hn _
  have hT' := hT.later hal
  have hP' := hP.later hal
  have hE' := hE.later hal
  have hF' := fb_new w i e
  have f1 : w.heap.size ≠ TB := by have := hT.lt; omega
  have f2 : w.heap.size ≠ P := by have := hP.lt; omega
  have f3 : w.heap.size ≠ E := by have := hE.lt; omega
  unfold flt
  refine callsD_of_wpS Try.func43 rfl fun c₀ cs hu => ?_
  apply wpS_seq
  apply wpS_region
  simp [wpOpsS, go_sem, recoverD, hu, Try.ntmps43, Exit.thenS]
  apply wpS_seq
  apply wpS_seq
  apply wpS_region
  simp [wpOpsS, go_sem, Exit.thenS, q20]
  refine wpS_cond (t := false) (by simp [Act.eval, Array.replicate]) ?_
  simp only [Bool.false_eq_true, if_false]
  refine wpS_of_wp (wp_skip ?_)
  simp only [Exit.thenS]
  apply wpS_seq
  apply wpS_region
  simp [wpOpsS, go_sem, Exit.thenS, ta]
  apply wpS_seq
  apply wpS_seq
  apply wpS_region
  simp [wpOpsS, go_sem, Exit.thenS]
  refine wpS_cond (t := false) (by simp [Act.eval, Array.replicate]) ?_
  simp only [Bool.false_eq_true, if_false]
  refine wpS_of_wp (wp_skip ?_)
  simp only [Exit.thenS]
  refine wpS_of_wp ?_
  refine reg5 (n := n) (TB := TB) (P := P) (E := E) (F := w.heap.size) (i := i) (e := e) (x := x) (o1 := o1) (o2 := o2) (by simp [T]) (by simp [T]) (by simp [T]) (by simp [T]) (by simp) h1 h2 h3 f1 f2 f3 k1 k2 k3 hF' hT' hP' hE' ?_
  intro a' W' hdf q1 q2 q3 q4
  have q5 : Below n w W' := ⟨q4.os.trans hbn.os, q4.tape.trans hbn.tape, q4.output.trans hbn.output, Nat.le_trans hbn.size q4.size, fun b hb => (q4.block b hb).trans (hbn.block b hb)⟩
  clear q4 hT hP hE hal hbn hT' hP' hE' hF' f1 f2 f3 q20 ta
  exact ⟨hdf, _, rfl, _, results_none rfl _ _ _, rfl, rfl, q1, q2, q3, q5⟩
end Go.Proofs.Ytjmbimgofceanaa
