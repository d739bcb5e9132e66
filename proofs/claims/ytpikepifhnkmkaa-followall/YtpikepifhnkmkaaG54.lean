/- FollowAll answers true for every longest line, every number of bytes of a read, every row of files of every row of pieces, and every turn (P17.5: of a file that is only appended to, and rotated once its end was read, the lines that are answered, in order, are all whole lines of all files that are not too long; the others are counted by Long; nothing is missed, gone or cut; a follower that is made anew with the mark answers the same lines from there on), and leaves its arguments as they were. Conditions: the reach of the row itself. -/
import Derived.Test.YtpikepifhnkmkaaG53
import Derived.ProofKit
import Derived.OpenShut
import Derived.ShutString
import Derived.ChangeOld
import Derived.SizedLaws
import Derived.JoinedCond
import Derived.Deep.DeepHandedRow
import Derived.Lib.SmallJoins
import Derived.Deep.Slices
namespace Go.Proofs.Ytpikepifhnkmkaa
open Go.ChangeShapes Go.WideShapes Go.ChangeAt Go.RowKit Go.Deep Sf Fo

theorem own : ownKnob Try.prog.godebug = none := by kernel_rfl
theorem laidOut : laidOutB Try.prog = true := by kernel_rfl
theorem cells3 : Try.prog.cellsOf 3 = 1 := by kernel_rfl
theorem cells9 : Try.prog.cellsOf 9 = 1 := by kernel_rfl
theorem cellsRow : Try.prog.cellsOf 38 = 1 := by kernel_rfl
theorem cellsA : Try.prog.cellsOf 22 = 2 := by kernel_rfl
theorem bytesRow : Try.prog.bytesOf 38 = 24 := by kernel_rfl
theorem bounds_n {n : Int} (h : (Lit.int .i64 n).wf = true) : goodI n := by
  have h : -9223372036854775808 ≤ n ∧ n ≤ 9223372036854775807 := by simpa [Lit.wf, IntKind.min, IntKind.max, IntKind.signed, IntKind.bits] using h
  exact h
section
variable {H : Type} {enc : TypeId × Value → H} {W : World}
/-- what a datum weighs at most -/
def Wt (t : TypeId) (d : DataW H) : Prop := ∀ n ∈ d.weights Try.prog t, n ≤ reachBytes
theorem wt_of {ts : List TypeId} {ds : List (DataW H)} (h : (DataW.weightsEach Try.prog ts ds).all (· ≤ reachBytes) = true) {j : Nat} {t : TypeId} {d : DataW H} (ht : ts[j]? = some t) (hd : ds[j]? = some d) : Wt t d := fun n hn => by
  have := List.all_eq_true.1 h _ (DataW.weights_mem_each ht hd n hn)
  simpa using this
theorem Wt.slice {t e : TypeId} {es sp : List (DataW H)} (h : Wt t (.slice es sp)) (hu : Try.prog.underlying t = some (.slice e)) : (es.length + sp.length) * Try.prog.bytesOf e ≤ reachBytes := h _ (by simp [DataW.weights, hu])
set_option maxRecDepth 20000 in
/-- two numbers that came in -/
theorem open_two {v : Value} {d : DataW H} {p : List MemPlace} {r : Reach} {b0 : Nat} (hv : Value.okWide Try.prog W r b0 22 v) (h : DataW.Trod enc Try.prog W 0 (fun _ => true) true 22 v d p) : ∃ z0 z1 : Int, v = .agg #[.int .i64 z0, .int .i64 z1] ∧ goodI z0 ∧ goodI z1 := by
  obtain ⟨xs, rfl, hs⟩ : ∃ xs : Array Value, v = .agg xs ∧ xs.size = 2 := by
    have hu : Try.prog.underlying 22 = some (.array 2 3) := by kernel_rfl
    simp only [Value.okWide, hu] at hv
    obtain ⟨cs, h1, h2, _⟩ := hv
    exact ⟨cs, h1, by rw [h2]; exact cellsA⟩
  obtain ⟨c0, c1, rfl⟩ : ∃ c0 c1, xs = #[c0, c1] := by
    obtain ⟨l⟩ := xs
    match l, hs with
    | [c0, c1], _ => exact ⟨c0, c1, rfl⟩
  obtain ⟨fuel, hf⟩ := h
  obtain ⟨ys, m, _, _, _, hl, hel⟩ := DataW.trod_array (by kernel_rfl : Try.prog.underlying 22 = some (.array 2 3)) hf
  match ys, hl with
  | [y0, y1], _ =>
    have h0 := hel 0 (by omega)
    have h1 := hel 1 (by omega)
    simp only [cells3, Value.cells, Nat.zero_mul, Nat.one_mul, List.drop_zero, List.drop_succ_cons, List.take_succ_cons, List.take_zero, List.getElem?_cons_zero, List.getElem?_cons_succ] at h0 h1
    obtain ⟨k0, e0, _, w0⟩ := DataW.trod_int Try.underlying3 h0
    obtain ⟨k1, e1, _, w1⟩ := DataW.trod_int Try.underlying3 h1
    simp only [List.cons.injEq, and_true] at e0 e1
    exact ⟨k0, k1, by rw [e0, e1], bounds_n w0, bounds_n w1⟩
/-- a row of text that came in -/
theorem open_strs {fuel : Nat} {v : Value} {x : DataW H × List MemPlace} (h : DataW.trod enc Try.prog W 0 (fun _ => true) true fuel 38 [v] = some x) : ∃ r : List ByteArray, LAt W v (r.map Value.string) ∧ ∀ s ∈ r, s.size ≤ maxLen := by
  rcases open_slice1 (by kernel_rfl : Try.prog.underlying 38 = some (.slice 9)) cells9 h with ⟨hcs, hx⟩ | ⟨a, len, cap, m, n, V, D, Pl, hcs, _, hl, hm, hmm, hx, hrow⟩
  · simp only [List.cons.injEq, and_true] at hcs
    subst hcs
    exact ⟨[], lat_nil W, fun s hs => by cases hs⟩
  · simp only [List.cons.injEq, and_true] at hcs
    have hmc : m = cap := by simpa using hmm
    obtain ⟨f, hf⟩ := choose_lt (α := ByteArray) (n := len) (p := fun i s => W.cell? (a.add i) = some (.string s) ∧ s.size ≤ maxLen) (fun i hi => by
      obtain ⟨c1, c2⟩ := hrow i (by omega)
      obtain ⟨k, e0, _, w0⟩ := DataW.trod_string Try.underlying9 c2
      simp only [List.cons.injEq, and_true] at e0
      rw [e0] at c1
      exact ⟨k, c1, w0⟩)
    refine ⟨(List.range len).map f, ⟨some a, cap, by rw [hcs]; simp, by simpa using hl, by unfold maxLen at hm; omega, ?_⟩, fun s hs => ?_⟩
    · by_cases h0 : 0 < len
      · obtain ⟨bb, off, spot⟩ := a
        have hspot : spot = none := by
          have h1 := (hf 0 h0).1
          simpa [Addr.add] using World.cell?_spot h1
        subst hspot
        refine .inr ⟨bb, off, rfl, fun k v hv => ?_⟩
        have hk : k < len := by
          have := (List.getElem?_eq_some_iff.1 hv).1
          simpa using this
        simp [hk] at hv
        subst hv
        have := (hf k hk).1
        rw [Go.WideShapes.add_plain] at this
        exact this
      · exact .inl (by have : len = 0 := by omega
                       simp [this])
    · obtain ⟨i, hi, rfl⟩ := List.mem_map.1 hs
      exact (hf i (by simpa using hi)).2
/-- THE PIECES THAT CAME IN -/
theorem open_pcs {v : Value} {d : DataW H} {p : List MemPlace} (h : DataW.Trod enc Try.prog W 0 (fun _ => true) true 23 v d p) (hw : Wt 23 d) (hv : ∃ a len cap, v = .slice a len cap) : ∃ (a : Option Addr) (c : Nat) (ps : List (List ByteArray)), v = .slice a ps.length c ∧ Pcs W a ps := by
  obtain ⟨a0, len0, cap0, rfl⟩ := hv
  obtain ⟨fuel, hf⟩ := h
  have hu : Try.prog.underlying 23 = some (.slice 38) := by kernel_rfl
  rcases open_slice1 hu cellsRow hf with ⟨hcs, hx⟩ | ⟨a, len, cap, m, n, V, D, Pl, hcs, _, hl, hm, hmm, hx, hrow⟩
  · simp [Value.cells] at hcs
    obtain ⟨rfl, rfl, rfl⟩ := hcs
    exact ⟨none, 0, [], rfl, .inl rfl, fun o ho => by simp at ho, by simp⟩
  · simp [Value.cells] at hcs
    obtain ⟨rfl, rfl, rfl⟩ := hcs
    obtain rfl : d = _ := (Prod.mk.inj hx).1
    have hmc : m = cap0 := by simpa using hmm
    have hby := hw.slice hu
    rw [bytesRow] at hby
    simp only [List.length_map, List.length_range] at hby
    obtain ⟨I, hI⟩ := choose_lt (α := List ByteArray) (n := len0) (p := fun i r => (∃ X, W.cell? (a.add i) = some X ∧ LAt W X (r.map Value.string)) ∧ ∀ s ∈ r, s.size ≤ maxLen) (fun i hi => by
      obtain ⟨c1, c2⟩ := hrow i (by omega)
      obtain ⟨r, g1, g2⟩ := open_strs c2
      exact ⟨r, ⟨V i, c1, g1⟩, g2⟩)
    refine ⟨some a, cap0, (List.range len0).map I, by simp, ?_, fun o ho => ?_, ?_⟩
    · by_cases h0 : 0 < len0
      · obtain ⟨bb, off, spot⟩ := a
        have hspot : spot = none := by
          obtain ⟨X, h1, _⟩ := (hI 0 h0).1
          simpa [Addr.add] using World.cell?_spot h1
        subst hspot
        refine .inr ⟨bb, off, rfl, fun i o hi => ?_⟩
        have hk : i < len0 := by
          have := (List.getElem?_eq_some_iff.1 hi).1
          simpa using this
        simp [hk] at hi
        subst hi
        obtain ⟨X, h1, h2⟩ := (hI i hk).1
        rw [Go.WideShapes.add_plain] at h1
        exact ⟨X, h1, h2⟩
      · exact .inl (by have : len0 = 0 := by omega
                       simp [this])
    · obtain ⟨i, hi, rfl⟩ := List.mem_map.1 ho
      exact (hI i (by simpa using hi)).2
    · have h3 : reachBytes = 140737488351232 := by decide
      simp only [List.length_map, List.length_range]
      omega
end
end Go.Proofs.Ytpikepifhnkmkaa


namespace Go.Proofs.Ytpikepifhnkmkaa.followAll
open Go.ChangeShapes Go.WideShapes Go.ChangeAt Go.RowKit Sf

set_option maxRecDepth 8000 in
theorem contract (H : Type) (enc : TypeId × Value → H) (W : World) (base : Nat) (args : Array Value) (ds gs : List (DataW H)) (before : List MemPlace)
    (hval : ∀ (j : Nat) t v, Try.f3.params[j]? = some t → args[j]? = some v → Value.okWide Try.prog W .any base t v)
    (hW : DataW.Whole enc Try.prog Try.f3.params.toList Rows.followAllSpec.vars false W args.toList ds gs before)
    (hsz : (DataW.weightsEach Try.prog (Try.f3.params.toList ++ Rows.followAllSpec.plain.varTypes Try.prog) (ds ++ gs)).all (· ≤ reachBytes) = true) :
    Calls Try.prog 3 args W fun e W' => ∃ v, e = .returned v ∧ Rows.followAllSpec.post enc Try.prog Try.f3 false true false false W args v W' := by
  have hW' := hW
  obtain ⟨p, q, hA0, hV, rfl, hfz, hnd⟩ := hW
  have hA : DataW.TrodAll enc Try.prog W 0 (fun _ => true) true Try.f3.params.toList args.toList ds p := hA0
  rw [Try.params3] at hA hval hsz
  obtain ⟨v0, vs0, d0, ds0, p0, q0, hargs, rfl, rfl, h0, r0⟩ := trodAll_cons hA
  obtain ⟨v1, vs1, d1, ds1, p1, q1, rfl, rfl, rfl, h1, r1⟩ := trodAll_cons r0
  obtain ⟨v2, vs2, d2, ds2, p2, q2, rfl, rfl, rfl, h2, r2⟩ := trodAll_cons r1
  obtain ⟨rfl, rfl, rfl⟩ := trodAll_nil r2
  obtain rfl : args = #[v0, v1, v2] := by cases args; simp_all
  obtain ⟨rfl, rfl⟩ := trodVars_none hV
  have k0 := h0
  have lt0 : ∀ x ∈ p0, x.block < W.heap.size := by obtain ⟨m, hm⟩ := k0; exact DataW.trod_lt m _ _ _ hm
  have k1 := h1
  have lt1 : ∀ x ∈ p1, x.block < W.heap.size := by obtain ⟨m, hm⟩ := k1; exact DataW.trod_lt m _ _ _ hm
  have k2 := h2
  have lt2 : ∀ x ∈ p2, x.block < W.heap.size := by obtain ⟨m, hm⟩ := k2; exact DataW.trod_lt m _ _ _ hm
  obtain ⟨z0, z1, rfl, gz0, gz1⟩ := open_two (hval 0 22 v0 rfl rfl) h0
  obtain ⟨a1, c1, ps, rfl, at1⟩ := open_pcs h1 (wt_of hsz (j := 1) rfl rfl) (okWide_slice (by kernel_rfl : Try.prog.underlying 23 = some (.slice 38)) (hval 1 23 v1 rfl rfl))
  obtain ⟨n2, rfl⟩ := okWide_int Try.underlying3 (hval 2 3 v2 rfl rfl)
  have gd2 : goodI n2 := by
    obtain ⟨fu, hf⟩ := h2
    obtain ⟨m, e, _, u⟩ := DataW.trod_int Try.underlying3 hf
    have e : n2 = m := by simpa [Value.cells] using e
    rw [e]
    exact bounds_n u
  clear hA0
  refine (all_any gz0 gz1 gd2 (c := c1) at1).mono fun e W' ⟨he, bel⟩ => ?_
  subst he
  exact ⟨_, rfl, _, _, _, [], _, [], hW', trodAll_mk1 (shut_bool Try.underlying4 _), (trodAll_cons_mk (Below.trod laidOut (by kernel_rfl) (of_decide_eq_true (by kernel_rfl)) k0 bel lt0) (trodAll_cons_mk (Below.trod laidOut (by kernel_rfl) (of_decide_eq_true (by kernel_rfl)) k1 bel lt1) (trodAll_cons_mk (Below.trod laidOut (by kernel_rfl) (of_decide_eq_true (by kernel_rfl)) k2 bel lt2) trodAll_mk0))), rfl, bel.frame _, fun h => by cases h⟩

set_option maxRecDepth 100000 in
theorem lifted (os : Os) (started : os.Started) (H : Type) (enc : TypeId × Value → H) (F : Stop.Interp) :
    ReturnsInHanded {} Try.checked os 3 .any ((OpenSpec.ofChange Rows.followAllSpec).preRow enc Try.prog Try.f3 Rows.followAllRow.domain false Rows.followAllRow.laid) (((OpenSpec.ofChange Rows.followAllSpec).at F).post enc Try.prog Try.f3 false true false false) := by
  refine returnsInHanded_of_row (C := Try.checked) (s := (OpenSpec.ofChange Rows.followAllSpec)) own started (by kernel_rfl) Try.func3
    (witness_row_at (enc := enc) (C := Try.checked) false (World.holding Try.prog os ⟨#[], #[], []⟩)
      #[.agg #[.int .i64 0, .int .i64 0], .slice none 0 0, .int .i64 0] rfl (by kernel_rfl) (by kernel_rfl) (by kernel_rfl)
      (OpenSpec.preRow_of_cond 8 (x := ([.agg [.lit (.int .i64 0), .lit (.int .i64 0)], .nil, .lit (.int .i64 0)], [], [])) (by kernel_rfl) (by kernel_rfl) (fun k hk => by cases hk) (by kernel_rfl) (laidMet_of_run' 8 (by kernel_rfl) (by kernel_rfl)))) ?_
  intro W base args ds gs before hval hW _ _ hsz _ _ _
  exact contract H enc W base args ds gs before hval hW hsz

theorem said : Rows.FollowAllSaid :=
  OpenClaim.holds_of_cond 3 Try.f3 rfl rfl rfl rfl rfl rfl rfl ⟨rfl, rfl, rfl, rfl, rfl⟩ rfl rfl rfl rfl rfl (by kernel_rfl) Try.func3 (by kernel_rfl)
    (of_decide_eq_true (by kernel_rfl)) (by unfold Func.isWrapper; first | (rw [if_pos (by decide +kernel)]; kernel_rfl) | (rw [if_neg (by decide +kernel)]; exact ⟨rfl, rfl⟩))
    (fun os started H enc _ F => by rw [OpenClaim.pre_eq_preRow]; exact lifted os started H enc F)
end Go.Proofs.Ytpikepifhnkmkaa.followAll

namespace Go.Proofs.Ytpikepifhnkmkaa
/-- THE FIRST FORM OF FollowAll. -/
theorem followAll_said : Rows.FollowAllSaid := followAll.said
end Go.Proofs.Ytpikepifhnkmkaa
