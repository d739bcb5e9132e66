/- From the row's own conditions to what the walks ask: the setup, calls that came in (typed by gen/dlopen.py). -/
import Derived.Test.YtmdhlaccioaomaaG20
import Derived.ProofKit
import Derived.OpenShut
import Derived.ShutString
import Derived.ChangeOld
import Derived.SizedLaws
import Derived.JoinedCond
import Derived.Deep.DeepHandedRow
import Derived.Lib.SmallJoins
import Derived.Deep.Slices
namespace Go.Proofs.Ytmdhlaccioaomaa
open Go.ChangeShapes Go.WideShapes Go.ChangeAt Go.RowKit Go.Deep Rg

theorem own : ownKnob Try.prog.godebug = none := by kernel_rfl
theorem laidOut : laidOutB Try.prog = true := by kernel_rfl
theorem cells3 : Try.prog.cellsOf 3 = 1 := by kernel_rfl
theorem cells9 : Try.prog.cellsOf 9 = 1 := by kernel_rfl
theorem cells4 : Try.prog.cellsOf 4 = 1 := by kernel_rfl
theorem cellsU : Try.prog.cellsOf 39 = 1 := by kernel_rfl
theorem cellsLo : Try.prog.cellsOf 36 = 5 := by kernel_rfl
theorem cellsMk : Try.prog.cellsOf 38 = 9 := by kernel_rfl
theorem cellsAl : Try.prog.cellsOf 41 = 12 := by kernel_rfl
theorem cellsOp : Try.prog.cellsOf 43 = 16 := by kernel_rfl
theorem cellsSe : Try.prog.cellsOf 23 = 4 := by kernel_rfl
theorem bytesOp : Try.prog.bytesOf 43 = 136 := by kernel_rfl
theorem bounds_n {n : Int} (h : (Lit.int .i64 n).wf = true) : -9223372036854775808 ≤ n ∧ n ≤ 9223372036854775807 := by
  simpa [Lit.wf, IntKind.min, IntKind.max, IntKind.signed, IntKind.bits] using h
theorem len4 {α : Type} {l : List α} (h : l.length = 4) : ∃ a0 a1 a2 a3, l = [a0, a1, a2, a3] := by
  match l, h with
  | [a0, a1, a2, a3], _ => exact ⟨a0, a1, a2, a3, rfl⟩
theorem len5 {α : Type} {l : List α} (h : l.length = 5) : ∃ a0 a1 a2 a3 a4, l = [a0, a1, a2, a3, a4] := by
  match l, h with
  | [a0, a1, a2, a3, a4], _ => exact ⟨a0, a1, a2, a3, a4, rfl⟩
theorem len9 {α : Type} {l : List α} (h : l.length = 9) : ∃ a0 a1 a2 a3 a4 a5 a6 a7 a8, l = [a0, a1, a2, a3, a4, a5, a6, a7, a8] := by
  match l, h with
  | [a0, a1, a2, a3, a4, a5, a6, a7, a8], _ => exact ⟨a0, a1, a2, a3, a4, a5, a6, a7, a8, rfl⟩
theorem len12 {α : Type} {l : List α} (h : l.length = 12) : ∃ a0 a1 a2 a3 a4 a5 a6 a7 a8 a9 a10 a11, l = [a0, a1, a2, a3, a4, a5, a6, a7, a8, a9, a10, a11] := by
  match l, h with
  | [a0, a1, a2, a3, a4, a5, a6, a7, a8, a9, a10, a11], _ => exact ⟨a0, a1, a2, a3, a4, a5, a6, a7, a8, a9, a10, a11, rfl⟩
theorem len16 {α : Type} {l : List α} (h : l.length = 16) : ∃ a0 a1 a2 a3 a4 a5 a6 a7 a8 a9 a10 a11 a12 a13 a14 a15, l = [a0, a1, a2, a3, a4, a5, a6, a7, a8, a9, a10, a11, a12, a13, a14, a15] := by
  match l, h with
  | [a0, a1, a2, a3, a4, a5, a6, a7, a8, a9, a10, a11, a12, a13, a14, a15], _ => exact ⟨a0, a1, a2, a3, a4, a5, a6, a7, a8, a9, a10, a11, a12, a13, a14, a15, rfl⟩
section
variable {H : Type} {enc : TypeId × Value → H} {W : World}
def Wt (t : TypeId) (d : DataW H) : Prop := ∀ n ∈ d.weights Try.prog t, n ≤ reachBytes
theorem wt_of {ts : List TypeId} {ds : List (DataW H)} (h : (DataW.weightsEach Try.prog ts ds).all (· ≤ reachBytes) = true) {j : Nat} {t : TypeId} {d : DataW H} (ht : ts[j]? = some t) (hd : ds[j]? = some d) : Wt t d := fun n hn => by
  have := List.all_eq_true.1 h _ (DataW.weights_mem_each ht hd n hn)
  simpa using this
theorem mem_weightsAll {e : TypeId} : ∀ {l : List (DataW H)} {d : DataW H}, d ∈ l → ∀ n ∈ d.weights Try.prog e, n ∈ DataW.weightsAll Try.prog e l
  | [], d, h, _, _ => by simp at h
  | x :: r, d, h, n, hn => by
    simp only [DataW.weightsAll, List.mem_append]
    rcases List.mem_cons.1 h with rfl | h
    · exact .inl hn
    · exact .inr (mem_weightsAll h n hn)
theorem Wt.elems {t e : TypeId} {es sp : List (DataW H)} (h : Wt t (.slice es sp)) (hu : Try.prog.underlying t = some (.slice e)) : ∀ d ∈ es, Wt e d := fun d hd n hn => h n (by
  simp only [DataW.weights, hu, List.mem_cons, List.mem_append]
  exact .inr (.inl (mem_weightsAll hd n hn)))
theorem Wt.part {t : TypeId} {fs : Array Field} {ps : List (DataW H)} (h : Wt t (.agg ps)) (hu : Try.prog.underlying t = some (.struct fs)) {j : Nat} {f : Field} {d : DataW H} (hf : fs[j]? = some f) (hd : ps[j]? = some d) : Wt f.type d := fun n hn => by
  refine h n ?_
  simp only [DataW.weights, hu]
  exact DataW.weights_mem_each (j := j) (by simp [hf]) hd n hn
theorem Wt.text {s : ByteArray} (h : Wt 9 (.lit (.string s.data.toList) : DataW H)) : s.size ≤ 281474976710656 := by
  have h1 : s.data.toList.length ≤ reachBytes := h _ (by simp [DataW.weights])
  have h2 : s.data.toList.length = s.size := by rw [Array.length_toList]; rfl
  have h3 : reachBytes = 140737488351232 := by decide
  omega
theorem Wt.slice {t e : TypeId} {es sp : List (DataW H)} (h : Wt t (.slice es sp)) (hu : Try.prog.underlying t = some (.slice e)) : (es.length + sp.length) * Try.prog.bytesOf e ≤ reachBytes := h _ (by simp [DataW.weights, hu])
set_option linter.unusedSimpArgs false in
theorem open_loss {fuel : Nat} {cs : List Value} {x : DataW H × List MemPlace} (h : DataW.trod enc Try.prog W 0 (fun _ => true) true fuel 36 cs = some x) : ∃ z0 z1 z2 z3 z4 : Int, cs = [.int .i64 z0, .int .i64 z1, .int .i64 z2, .int .i64 z3, .int .i64 z4] := by
  obtain ⟨xs, n, _, rfl, hl, hlen, hf⟩ := DataW.trod_struct Try.underlying36 h
  rw [cellsLo] at hl
  obtain ⟨v0, v1, v2, v3, v4, rfl⟩ := len5 hl
  obtain ⟨y0, y1, y2, y3, y4, rfl⟩ : ∃ y0 y1 y2 y3 y4, xs = [y0, y1, y2, y3, y4] := by
    match xs, hlen with
    | [y0, y1, y2, y3, y4], _ => exact ⟨y0, y1, y2, y3, y4, rfl⟩
  have g0 : DataW.trod enc Try.prog W 0 (fun _ => true) true n 3 (([v0, v1, v2, v3, v4].drop 0).take (Try.prog.cellsOf 3)) = some y0 := hf 0 _ rfl
  have g1 : DataW.trod enc Try.prog W 0 (fun _ => true) true n 3 (([v0, v1, v2, v3, v4].drop 1).take (Try.prog.cellsOf 3)) = some y1 := hf 1 _ rfl
  have g2 : DataW.trod enc Try.prog W 0 (fun _ => true) true n 3 (([v0, v1, v2, v3, v4].drop 2).take (Try.prog.cellsOf 3)) = some y2 := hf 2 _ rfl
  have g3 : DataW.trod enc Try.prog W 0 (fun _ => true) true n 3 (([v0, v1, v2, v3, v4].drop 3).take (Try.prog.cellsOf 3)) = some y3 := hf 3 _ rfl
  have g4 : DataW.trod enc Try.prog W 0 (fun _ => true) true n 3 (([v0, v1, v2, v3, v4].drop 4).take (Try.prog.cellsOf 3)) = some y4 := hf 4 _ rfl
  simp only [cells3, cells9, cells4, cellsU, cellsLo, cellsMk, cellsAl, List.drop_zero, List.drop_succ_cons, List.take_succ_cons, List.take_zero] at g0 g1 g2 g3 g4
  obtain ⟨k0, e0, _⟩ := DataW.trod_int Try.underlying3 g0
  obtain ⟨k1, e1, _⟩ := DataW.trod_int Try.underlying3 g1
  obtain ⟨k2, e2, _⟩ := DataW.trod_int Try.underlying3 g2
  obtain ⟨k3, e3, _⟩ := DataW.trod_int Try.underlying3 g3
  obtain ⟨k4, e4, _⟩ := DataW.trod_int Try.underlying3 g4
  simp only [List.cons.injEq, and_true] at e0 e1 e2 e3 e4
  subst e0 e1 e2 e3 e4
  exact ⟨k0, k1, k2, k3, k4, rfl⟩
set_option linter.unusedSimpArgs false in
theorem open_mark {fuel : Nat} {cs : List Value} {x : DataW H × List MemPlace} (h : DataW.trod enc Try.prog W 0 (fun _ => true) true fuel 38 cs = some x) : ∃ z0 z1 z2 z3 z4 z5 z6 z7 z8 : Int, cs = [.int .i64 z0, .int .i64 z1, .int .i64 z2, .int .i64 z3, .int .i64 z4, .int .i64 z5, .int .i64 z6, .int .i64 z7, .int .i64 z8] := by
  obtain ⟨xs, n, _, rfl, hl, hlen, hf⟩ := DataW.trod_struct Try.underlying38 h
  rw [cellsMk] at hl
  obtain ⟨v0, v1, v2, v3, v4, v5, v6, v7, v8, rfl⟩ := len9 hl
  obtain ⟨y0, y1, y2, y3, y4, rfl⟩ : ∃ y0 y1 y2 y3 y4, xs = [y0, y1, y2, y3, y4] := by
    match xs, hlen with
    | [y0, y1, y2, y3, y4], _ => exact ⟨y0, y1, y2, y3, y4, rfl⟩
  have g0 : DataW.trod enc Try.prog W 0 (fun _ => true) true n 3 (([v0, v1, v2, v3, v4, v5, v6, v7, v8].drop 0).take (Try.prog.cellsOf 3)) = some y0 := hf 0 _ rfl
  have g1 : DataW.trod enc Try.prog W 0 (fun _ => true) true n 3 (([v0, v1, v2, v3, v4, v5, v6, v7, v8].drop 1).take (Try.prog.cellsOf 3)) = some y1 := hf 1 _ rfl
  have g2 : DataW.trod enc Try.prog W 0 (fun _ => true) true n 3 (([v0, v1, v2, v3, v4, v5, v6, v7, v8].drop 2).take (Try.prog.cellsOf 3)) = some y2 := hf 2 _ rfl
  have g3 : DataW.trod enc Try.prog W 0 (fun _ => true) true n 3 (([v0, v1, v2, v3, v4, v5, v6, v7, v8].drop 3).take (Try.prog.cellsOf 3)) = some y3 := hf 3 _ rfl
  have g4 : DataW.trod enc Try.prog W 0 (fun _ => true) true n 36 (([v0, v1, v2, v3, v4, v5, v6, v7, v8].drop 4).take (Try.prog.cellsOf 36)) = some y4 := hf 4 _ rfl
  simp only [cells3, cells9, cells4, cellsU, cellsLo, cellsMk, cellsAl, List.drop_zero, List.drop_succ_cons, List.take_succ_cons, List.take_zero] at g0 g1 g2 g3 g4
  obtain ⟨k0, e0, _⟩ := DataW.trod_int Try.underlying3 g0
  obtain ⟨k1, e1, _⟩ := DataW.trod_int Try.underlying3 g1
  obtain ⟨k2, e2, _⟩ := DataW.trod_int Try.underlying3 g2
  obtain ⟨k3, e3, _⟩ := DataW.trod_int Try.underlying3 g3
  obtain ⟨l0, l1, l2, l3, l4, e4⟩ := open_loss g4
  simp only [List.cons.injEq, and_true] at e0 e1 e2 e3 e4
  obtain ⟨e4_0, e4_1, e4_2, e4_3, e4_4⟩ := e4
  subst e0 e1 e2 e3 e4_0 e4_1 e4_2 e4_3 e4_4
  exact ⟨k0, k1, k2, k3, l0, l1, l2, l3, l4, rfl⟩
set_option linter.unusedSimpArgs false in
theorem open_alert {fuel : Nat} {cs : List Value} {x : DataW H × List MemPlace} (h : DataW.trod enc Try.prog W 0 (fun _ => true) true fuel 41 cs = some x) (hw : Wt 41 x.1) : ∃ y : Al, cs = alC y ∧ y.t.size ≤ 281474976710656 := by
  obtain ⟨xs, n, _, rfl, hl, hlen, hf⟩ := DataW.trod_struct Try.underlying41 h
  rw [cellsAl] at hl
  obtain ⟨v0, v1, v2, v3, v4, v5, v6, v7, v8, v9, v10, v11, rfl⟩ := len12 hl
  obtain ⟨y0, y1, y2, y3, rfl⟩ : ∃ y0 y1 y2 y3, xs = [y0, y1, y2, y3] := by
    match xs, hlen with
    | [y0, y1, y2, y3], _ => exact ⟨y0, y1, y2, y3, rfl⟩
  have g0 : DataW.trod enc Try.prog W 0 (fun _ => true) true n 3 (([v0, v1, v2, v3, v4, v5, v6, v7, v8, v9, v10, v11].drop 0).take (Try.prog.cellsOf 3)) = some y0 := hf 0 _ rfl
  have g1 : DataW.trod enc Try.prog W 0 (fun _ => true) true n 38 (([v0, v1, v2, v3, v4, v5, v6, v7, v8, v9, v10, v11].drop 1).take (Try.prog.cellsOf 38)) = some y1 := hf 1 _ rfl
  have g2 : DataW.trod enc Try.prog W 0 (fun _ => true) true n 9 (([v0, v1, v2, v3, v4, v5, v6, v7, v8, v9, v10, v11].drop 10).take (Try.prog.cellsOf 9)) = some y2 := hf 2 _ rfl
  have hw2 : Wt 9 y2.1 := Wt.part hw Try.underlying41 (j := 2) rfl rfl
  have g3 : DataW.trod enc Try.prog W 0 (fun _ => true) true n 39 (([v0, v1, v2, v3, v4, v5, v6, v7, v8, v9, v10, v11].drop 11).take (Try.prog.cellsOf 39)) = some y3 := hf 3 _ rfl
  simp only [cells3, cells9, cells4, cellsU, cellsLo, cellsMk, cellsAl, List.drop_zero, List.drop_succ_cons, List.take_succ_cons, List.take_zero] at g0 g1 g2 g3
  obtain ⟨k0, e0, _⟩ := DataW.trod_int Try.underlying3 g0
  obtain ⟨m0, m1, m2, m3, m4, m5, m6, m7, m8, e1⟩ := open_mark g1
  obtain ⟨k2, e2, u2, _⟩ := DataW.trod_string Try.underlying9 g2
  rw [u2] at hw2
  have w2 := Wt.text hw2
  obtain ⟨k3, e3, _⟩ := DataW.trod_int Try.underlying39 g3
  simp only [List.cons.injEq, and_true] at e0 e1 e2 e3
  obtain ⟨e1_0, e1_1, e1_2, e1_3, e1_4, e1_5, e1_6, e1_7, e1_8⟩ := e1
  subst e0 e1_0 e1_1 e1_2 e1_3 e1_4 e1_5 e1_6 e1_7 e1_8 e2 e3
  exact ⟨⟨k0, m0, m1, m2, m3, m4, m5, m6, m7, m8, k2, k3⟩, rfl, w2⟩
set_option linter.unusedSimpArgs false in
theorem open_op {fuel : Nat} {cs : List Value} {x : DataW H × List MemPlace} (h : DataW.trod enc Try.prog W 0 (fun _ => true) true fuel 43 cs = some x) (hw : Wt 43 x.1) : ∃ y : Opc, cs = opC y ∧ y.a.t.size ≤ 281474976710656 := by
  obtain ⟨xs, n, _, rfl, hl, hlen, hf⟩ := DataW.trod_struct Try.underlying43 h
  rw [cellsOp] at hl
  obtain ⟨v0, v1, v2, v3, v4, v5, v6, v7, v8, v9, v10, v11, v12, v13, v14, v15, rfl⟩ := len16 hl
  obtain ⟨y0, y1, y2, y3, y4, rfl⟩ : ∃ y0 y1 y2 y3 y4, xs = [y0, y1, y2, y3, y4] := by
    match xs, hlen with
    | [y0, y1, y2, y3, y4], _ => exact ⟨y0, y1, y2, y3, y4, rfl⟩
  have g0 : DataW.trod enc Try.prog W 0 (fun _ => true) true n 3 (([v0, v1, v2, v3, v4, v5, v6, v7, v8, v9, v10, v11, v12, v13, v14, v15].drop 0).take (Try.prog.cellsOf 3)) = some y0 := hf 0 _ rfl
  have g1 : DataW.trod enc Try.prog W 0 (fun _ => true) true n 41 (([v0, v1, v2, v3, v4, v5, v6, v7, v8, v9, v10, v11, v12, v13, v14, v15].drop 1).take (Try.prog.cellsOf 41)) = some y1 := hf 1 _ rfl
  have hw1 : Wt 41 y1.1 := Wt.part hw Try.underlying43 (j := 1) rfl rfl
  have g2 : DataW.trod enc Try.prog W 0 (fun _ => true) true n 3 (([v0, v1, v2, v3, v4, v5, v6, v7, v8, v9, v10, v11, v12, v13, v14, v15].drop 13).take (Try.prog.cellsOf 3)) = some y2 := hf 2 _ rfl
  have g3 : DataW.trod enc Try.prog W 0 (fun _ => true) true n 4 (([v0, v1, v2, v3, v4, v5, v6, v7, v8, v9, v10, v11, v12, v13, v14, v15].drop 14).take (Try.prog.cellsOf 4)) = some y3 := hf 3 _ rfl
  have g4 : DataW.trod enc Try.prog W 0 (fun _ => true) true n 3 (([v0, v1, v2, v3, v4, v5, v6, v7, v8, v9, v10, v11, v12, v13, v14, v15].drop 15).take (Try.prog.cellsOf 3)) = some y4 := hf 4 _ rfl
  simp only [cells3, cells9, cells4, cellsU, cellsLo, cellsMk, cellsAl, List.drop_zero, List.drop_succ_cons, List.take_succ_cons, List.take_zero] at g0 g1 g2 g3 g4
  obtain ⟨k0, e0, _⟩ := DataW.trod_int Try.underlying3 g0
  obtain ⟨al, e1, wal⟩ := open_alert g1 hw1
  obtain ⟨k2, e2, _⟩ := DataW.trod_int Try.underlying3 g2
  obtain ⟨k3, e3, _⟩ := DataW.trod_bool Try.underlying4 g3
  obtain ⟨k4, e4, _⟩ := DataW.trod_int Try.underlying3 g4
  unfold alC at e1
  simp only [List.cons.injEq, and_true] at e0 e1 e2 e3 e4
  obtain ⟨e1_0, e1_1, e1_2, e1_3, e1_4, e1_5, e1_6, e1_7, e1_8, e1_9, e1_10, e1_11⟩ := e1
  subst e0 e1_0 e1_1 e1_2 e1_3 e1_4 e1_5 e1_6 e1_7 e1_8 e1_9 e1_10 e1_11 e2 e3 e4
  exact ⟨⟨k0, al, k2, k3, k4⟩, rfl, wal⟩
theorem open_setup {v : Value} {d : DataW H} {p : List MemPlace} {r : Reach} {b0 : Nat} (hv : Value.okWide Try.prog W r b0 23 v) (h : DataW.Trod enc Try.prog W 0 (fun _ => true) true 23 v d p) : ∃ z0 z1 z2 z3 : Int, v = .agg #[.int .i64 z0, .int .i64 z1, .int .i64 z2, .int .i64 z3] := by
  obtain ⟨xs, rfl⟩ : ∃ xs : Array Value, v = .agg xs := by
    have hu := Try.underlying23
    simp only [Value.okWide, hu] at hv
    obtain ⟨cs, h1, _⟩ := hv
    exact ⟨cs, h1⟩
  obtain ⟨fuel, hf⟩ := h
  obtain ⟨l⟩ := xs
  obtain ⟨xs, n, _, _, hl, hlen, hg⟩ := DataW.trod_struct Try.underlying23 hf
  rw [cellsSe] at hl
  obtain ⟨v0, v1, v2, v3, rfl⟩ := len4 (l := l) (by simpa [Value.cells] using hl)
  obtain ⟨y0, y1, y2, y3, rfl⟩ : ∃ y0 y1 y2 y3, xs = [y0, y1, y2, y3] := by
    match xs, hlen with
    | [y0, y1, y2, y3], _ => exact ⟨y0, y1, y2, y3, rfl⟩
  have g0 : DataW.trod enc Try.prog W 0 (fun _ => true) true n 3 (([v0, v1, v2, v3].drop 0).take (Try.prog.cellsOf 3)) = some y0 := hg 0 _ rfl
  have g1 : DataW.trod enc Try.prog W 0 (fun _ => true) true n 3 (([v0, v1, v2, v3].drop 1).take (Try.prog.cellsOf 3)) = some y1 := hg 1 _ rfl
  have g2 : DataW.trod enc Try.prog W 0 (fun _ => true) true n 3 (([v0, v1, v2, v3].drop 2).take (Try.prog.cellsOf 3)) = some y2 := hg 2 _ rfl
  have g3 : DataW.trod enc Try.prog W 0 (fun _ => true) true n 3 (([v0, v1, v2, v3].drop 3).take (Try.prog.cellsOf 3)) = some y3 := hg 3 _ rfl
  simp only [cells3, List.drop_zero, List.drop_succ_cons, List.take_succ_cons, List.take_zero] at g0 g1 g2 g3
  obtain ⟨k0, e0, _⟩ := DataW.trod_int Try.underlying3 g0
  obtain ⟨k1, e1, _⟩ := DataW.trod_int Try.underlying3 g1
  obtain ⟨k2, e2, _⟩ := DataW.trod_int Try.underlying3 g2
  obtain ⟨k3, e3, _⟩ := DataW.trod_int Try.underlying3 g3
  simp only [List.cons.injEq, and_true] at e0 e1 e2 e3
  exact ⟨k0, k1, k2, k3, by rw [e0, e1, e2, e3]⟩
/-- THE CALLS THAT CAME IN -/
theorem open_ops {v : Value} {d : DataW H} {p : List MemPlace} (h : DataW.Trod enc Try.prog W 0 (fun _ => true) true 24 v d p) (hw : Wt 24 d) (hv : ∃ a len cap, v = .slice a len cap) : ∃ (a : Option Addr) (c : Nat) (ops : List Opc), v = .slice a ops.length c ∧ OpAt W a ops ∧ ops.length ≤ 35184372088832 ∧ ∀ o ∈ ops, o.a.t.size ≤ 281474976710656 := by
  obtain ⟨a0, len0, cap0, rfl⟩ := hv
  obtain ⟨fuel, hf⟩ := h
  rcases open_slice Try.underlying24 hf with ⟨hcs, hx⟩ | ⟨a, len, cap, m, n, D, Pl, hcs, _, hl, hm, hmm, hx, hrow⟩
  · simp [Value.cells] at hcs
    obtain ⟨rfl, rfl, rfl⟩ := hcs
    exact ⟨none, 0, [], rfl, .inl rfl, by simp, fun o ho => by simp at ho⟩
  · simp [Value.cells] at hcs
    obtain ⟨rfl, rfl, rfl⟩ := hcs
    obtain rfl : d = _ := (Prod.mk.inj hx).1
    have hmc : m = cap0 := by simpa using hmm
    have hby := hw.slice Try.underlying24
    have hel := hw.elems Try.underlying24
    rw [bytesOp] at hby
    simp only [List.length_map, List.length_range] at hby
    haveI : Inhabited Opc := ⟨opZ⟩
    obtain ⟨I, hI⟩ := choose_lt (α := Opc) (n := len0) (p := fun i o => (∀ k v, (opC o)[k]? = some v → W.cell? (a.add (i * 16 + k)) = some v) ∧ o.a.t.size ≤ 281474976710656) (fun i hi => by
      obtain ⟨cs', g1, g2⟩ := hrow i (by omega)
      rw [cellsOp] at g1
      obtain ⟨o, he, hg⟩ := open_op g2 (hel (D i) (List.mem_map.2 ⟨i, by simpa using hi, rfl⟩))
      obtain ⟨_, hlen', hcell⟩ := World.cells?_some g1
      refine ⟨o, fun k v hv => ?_, hg⟩
      have hk : k < 16 := by have := (List.getElem?_eq_some_iff.1 hv).1; rwa [opC_len] at this
      have c := hcell k hk
      rw [add_add, he] at c
      rw [c]
      simpa using hv)
    refine ⟨some a, cap0, (List.range len0).map I, by simp, ?_, ?_, fun o ho => ?_⟩
    · by_cases h0 : 0 < len0
      · obtain ⟨bb, off, spot⟩ := a
        have hspot : spot = none := by
          have h1 := (hI 0 h0).1 0 _ rfl
          simpa [Addr.add] using World.cell?_spot h1
        subst hspot
        refine .inr ⟨bb, off, rfl, fun i o hi k v hv => ?_⟩
        have hk : i < len0 := by
          have := (List.getElem?_eq_some_iff.1 hi).1
          simpa using this
        simp [hk] at hi
        subst hi
        have := (hI i hk).1 k v hv
        rw [Go.WideShapes.add_plain] at this
        rw [Nat.add_assoc]
        exact this
      · exact .inl (by have : len0 = 0 := by omega
                       simp [this])
    · have h3 : reachBytes = 140737488351232 := by decide
      simp only [List.length_map, List.length_range]
      omega
    · obtain ⟨i, hi, rfl⟩ := List.mem_map.1 ho
      exact (hI i (by simpa using hi)).2
end
end Go.Proofs.Ytmdhlaccioaomaa
