/- ere.read's deferred function: both ways. -/
import Derived.Test.YtjmbimgofceanaaG31
import Derived.Test.YtjmbimgofceanaaG10
namespace Go.Proofs.Ytjmbimgofceanaa
open Go.RowKit

theorem ta61 (v : Value) (w : World) : (Instr.typeAssert (.iface 82 v) 20 82 true).run Try.prog w = .ok (.tuple #[v, .bool true]) w := by kernel_rfl
theorem fb_new (w : World) (i e : Nat) : FB (w.alloc (.cells #[.int .i64 (i : Nat), .int .i64 (e : Nat)] 82)) w.heap.size i e := heap_alloc_new w _
set_option maxRecDepth 4000 in
set_option maxHeartbeats 4000000 in
theorem catch_panicking (TB P E : Nat) (i e : Nat) (x : Nd) (o1 o2 : Int) (w : World) (hT : NB w TB x) (hP : IB w P 3 o1) (hE : IB w E 31 o2) (h1 : TB ≠ P) (h2 : TB ≠ E) (h3 : P ≠ E) (n : Nat) (k1 : n ≤ TB) (k2 : n ≤ P) (k3 : n ≤ E) (hn : n ≤ w.heap.size) :
    CallsD Try.prog 43 #[.pointer (some ⟨TB, 0, none⟩), .pointer (some ⟨P, 0, none⟩), .pointer (some ⟨E, 0, none⟩)] (.panicking [{ v := flt i e, recovered := false }]) w fun r u' w' =>
      r = .returned (.tuple #[]) ∧ u' = .panicking [{ v := flt i e, recovered := true }] ∧ NB w' TB zeroNd ∧ IB w' P 3 i ∧ IB w' E 31 e ∧ Below n w w' := by
  have q20 := eq20_some
  have ta := ta61
  have hal := (Below.refl w.heap.size w).alloc (Nat.le_refl _) (.cells #[.int .i64 (i : Nat), .int .i64 (e : Nat)] 82)
  have hbn : Below n w (w.alloc (.cells #[.int .i64 (i : Nat), .int .i64 (e : Nat)] 82)) := (Below.refl n w).alloc hn _
  have hT' := hT.later hal
  have hP' := hP.later hal
  have hE' := hE.later hal
  have hF' := fb_new w i e
  have f1 : w.heap.size ≠ TB := by have := hT.lt; omega
  have f2 : w.heap.size ≠ P := by have := hP.lt; omega
  have f3 : w.heap.size ≠ E := by have := hE.lt; omega
  unfold flt
  refine callsD_of_wpS Try.func43 rfl fun c₀ cs hu => ?_
  apply wpS_seq
  apply wpS_region
  simp [wpOpsS, go_sem, recoverD, hu, Try.ntmps43, Exit.thenS]
  apply wpS_seq
  apply wpS_seq
  apply wpS_region
  simp [wpOpsS, go_sem, Exit.thenS, q20]
  refine wpS_cond (t := false) (by simp [Act.eval, Array.replicate]) ?_
  simp only [Bool.false_eq_true, if_false]
  refine wpS_of_wp (wp_skip ?_)
  simp only [Exit.thenS]
  apply wpS_seq
  apply wpS_region
  simp [wpOpsS, go_sem, Exit.thenS, ta]
  apply wpS_seq
  apply wpS_seq
  apply wpS_region
  simp [wpOpsS, go_sem, Exit.thenS]
  refine wpS_cond (t := false) (by simp [Act.eval, Array.replicate]) ?_
  simp only [Bool.false_eq_true, if_false]
  refine wpS_of_wp (wp_skip ?_)
  simp only [Exit.thenS]
  refine wpS_of_wp ?_
  refine reg5 (n := n) (TB := TB) (P := P) (E := E) (F := w.heap.size) (i := i) (e := e) (x := x) (o1 := o1) (o2 := o2) (by simp [T]) (by simp [T]) (by simp [T]) (by simp [T]) (by simp) h1 h2 h3 f1 f2 f3 k1 k2 k3 hF' hT' hP' hE' ?_
  intro a' W' hdf q1 q2 q3 q4
  have q5 : Below n w W' := ⟨q4.os.trans hbn.os, q4.tape.trans hbn.tape, q4.output.trans hbn.output, Nat.le_trans hbn.size q4.size, fun b hb => (q4.block b hb).trans (hbn.block b hb)⟩
  clear q4 hT hP hE hal hbn hT' hP' hE' hF' f1 f2 f3 q20 ta
  exact ⟨hdf, _, rfl, _, results_none rfl _ _ _, rfl, rfl, q1, q2, q3, q5⟩
end Go.Proofs.Ytjmbimgofceanaa

/- ere.read. -/
namespace Go.Proofs.Ytjmbimgofceanaa
open Go.RowKit
attribute [local go_sem ↓] Go.wp_at_zero Go.wp_at_succ

theorem ib_new (w : World) (t : TypeId) (v : Int) : IB (w.alloc (.cells #[.int .i64 v] t)) w.heap.size t v := heap_alloc_new w _
theorem rb_new (w : World) (s : ByteArray) : RB (w.alloc (.cells #[.string s, .int .i64 0, .int .i64 0] 85)) w.heap.size s 0 0 := heap_alloc_new w _
/-- what read answers -/
def ReadPost (w : World) (s : ByteArray) : Ending → World → Prop := fun e w' => Below w.heap.size w w' ∧ match wholeOf s with
  | .ok t _ => ∃ x : Nd, e = .returned (.tuple #[x.val, .int .i64 0, .int .i64 0]) ∧ NodeAt (fun b => w.heap.size ≤ b) w' t x
  | .bad i c => e = .returned (.tuple #[zeroNd.val, .int .i64 (i : Nat), .int .i64 (c : Nat)])
  | .out => False
theorem below_grown {w u u' : World} {B : Nat} (h : Below w.heap.size w u) (hg : u.grownBy u' (some B)) (hB : w.heap.size ≤ B) : Below w.heap.size w u' :=
  ⟨hg.os.trans h.os, hg.tape.trans h.tape, hg.output.trans h.output, Nat.le_trans h.size hg.size, fun b hb => (hg.block b (Nat.lt_of_lt_of_le hb h.size) (by simp; omega)).trans (h.block b hb)⟩
set_option maxRecDepth 4000 in
theorem res24 {tmps : Array Value} {w : World} {TB P E : Nat} {x : Nd} {a b : Int} (h2 : tmps[2]?.getD undef = .pointer (some ⟨TB, 0, none⟩)) (h3 : tmps[3]?.getD undef = .pointer (some ⟨P, 0, none⟩)) (h4 : tmps[4]?.getD undef = .pointer (some ⟨E, 0, none⟩)) (hT : NB w TB x) (hP : IB w P 3 a) (hE : IB w E 31 b) : (results Try.f27 tmps).run Try.prog w = .ok (.tuple #[x.val, .int .i64 a, .int .i64 b]) w := by
  obtain ⟨t0, t1, t2, t3, t4, t5, t6, t7⟩ := hT.cells
  have p0 := hP.cell
  have e0 := hE.cell
  unfold Nd.val
  simp [results, Try.results27, go_sem, h2, h3, h4, t0, t1, t2, t3, t4, t5, t6, t7, p0, e0]
set_option maxRecDepth 4000 in
set_option maxHeartbeats 4000000 in
theorem read_any (s : ByteArray) (w : World) (hs : s.size ≤ 1024) (hnl : ∀ i, byt s i ≠ 10) (gm : GM w) : Calls Try.prog 27 #[.string s] w (ReadPost w s) := by
  obtain ⟨w1, hw1⟩ : ∃ w1, w1 = w.alloc (.cells #[.int .i64 0, .int .u64 0, .int .u64 0, .int .u64 0, .int .u64 0, .slice none 0 0, .int .i64 0, .int .i64 0] 30) := ⟨_, rfl⟩
  obtain ⟨w2, hw2⟩ : ∃ w2, w2 = w1.alloc (.cells #[.int .i64 0] 3) := ⟨_, rfl⟩
  obtain ⟨w3, hw3⟩ : ∃ w3, w3 = w2.alloc (.cells #[.int .i64 0] 31) := ⟨_, rfl⟩
  obtain ⟨w4, hw4⟩ : ∃ w4, w4 = w3.alloc (.cells #[.string s, .int .i64 0, .int .i64 0] 85) := ⟨_, rfl⟩
  have z1 : w1.heap.size = w.heap.size + 1 := by rw [hw1]; simp
  have z2 : w2.heap.size = w.heap.size + 2 := by rw [hw2]; simp [z1]
  have z3 : w3.heap.size = w.heap.size + 3 := by rw [hw3]; simp [z2]
  have k1 : Below w.heap.size w w1 := by rw [hw1]; exact (Below.refl _ _).alloc (Nat.le_refl _) _
  have k2 : Below w1.heap.size w1 w2 := by rw [hw2]; exact (Below.refl _ _).alloc (Nat.le_refl _) _
  have k3 : Below w2.heap.size w2 w3 := by rw [hw3]; exact (Below.refl _ _).alloc (Nat.le_refl _) _
  have k4 : Below w3.heap.size w3 w4 := by rw [hw4]; exact (Below.refl _ _).alloc (Nat.le_refl _) _
  have HT : Hid (NB w4 w.heap.size zeroNd) := by
    have h : NB w1 w.heap.size zeroNd := by rw [hw1]; exact nb_zero w
    exact ((h.later k2).later k3).later k4
  have HP : Hid (IB w4 (w.heap.size + 1) 3 0) := by
    have h : IB w2 w1.heap.size 3 0 := by rw [hw2]; exact ib_new w1 3 0
    rw [z1] at h
    exact (h.later k3).later k4
  have HE : Hid (IB w4 (w.heap.size + 2) 31 0) := by
    have h : IB w3 w2.heap.size 31 0 := by rw [hw3]; exact ib_new w2 31 0
    rw [z2] at h
    exact h.later k4
  have HR : Hid (RB w4 (w.heap.size + 3) s 0 0) := by
    have h : RB w4 w3.heap.size s 0 0 := by rw [hw4]; exact rb_new w3 s
    rw [z3] at h
    exact h
  have HB : Hid (Below w.heap.size w w4) := below_step (below_step (below_step k1 k2) k3) k4
  have HG : Hid (GM w4) := (((gm.later k1).later k2).later k3).later k4
  have HNL : Hid (∀ i, byt s i ≠ 10) := hnl
  have HW1 : Hid (w.alloc (.cells #[.int .i64 0, .int .u64 0, .int .u64 0, .int .u64 0, .int .u64 0, .slice none 0 0, .int .i64 0, .int .i64 0] 30) = w1) := hw1.symm
  have HW2 : Hid (w1.alloc (.cells #[.int .i64 0] 3) = w2) := hw2.symm
  have HW3 : Hid (w2.alloc (.cells #[.int .i64 0] 31) = w3) := hw3.symm
  have HW4 : Hid (w3.alloc (.cells #[.string s, .int .i64 0, .int .i64 0] 85) = w4) := hw4.symm
  clear hw1 hw2 hw3 hw4 z1 z2 z3 k1 k2 k3 k4 hnl gm
  have hmf : ∀ (fn : Fn) (first cap : Array Value) (w : World), (Instr.makeFunc fn first cap).run Try.prog w = .ok (.func fn first cap) w := fun _ _ _ _ => rfl
  go_enter_defers Try.func27, Try.ntmps27
  go_upto_region 3 with fail
  rw [HW1.out, HW2.out, HW3.out, HW4.out]
  clear HW1 HW2 HW3 HW4 hmf
  have HN : Hid (w.heap.size = w.heap.size) := by show _ = _; rfl
  obtain ⟨B, hB⟩ : ∃ B, w.heap.size + 1 + 1 + 1 = B := ⟨_, rfl⟩
  obtain ⟨E, hE⟩ : ∃ E, w.heap.size + 1 + 1 = E := ⟨_, rfl⟩
  obtain ⟨P, hP⟩ : ∃ P, w.heap.size + 1 = P := ⟨_, rfl⟩
  obtain ⟨TB, hTB⟩ : ∃ TB, w.heap.size = TB := ⟨_, rfl⟩
  rw [hB, hE, hP]
  have HT' : Hid (NB w4 TB zeroNd) := by have := HT.out; rw [hTB] at this; exact this
  have HP' : Hid (IB w4 P 3 0) := by have := HP.out; rw [hP] at this; exact this
  have HE' : Hid (IB w4 E 31 0) := by have := HE.out; rw [show w.heap.size + 2 = E by omega] at this; exact this
  have HR' : Hid (RB w4 B s 0 0) := by have := HR.out; rw [show w.heap.size + 3 = B by omega] at this; exact this
  have HTP : Hid (TB ≠ P) := by show _ ≠ _; omega
  have HTE : Hid (TB ≠ E) := by show _ ≠ _; omega
  have HPE : Hid (P ≠ E) := by show _ ≠ _; omega
  have HTB : Hid (TB ≠ B) := by show _ ≠ _; omega
  have HPB : Hid (P ≠ B) := by show _ ≠ _; omega
  have HEB : Hid (E ≠ B) := by show _ ≠ _; omega
  have HLE : Hid (w.heap.size ≤ TB ∧ w.heap.size ≤ P ∧ w.heap.size ≤ E ∧ w.heap.size ≤ B ∧ B ≠ 0 ∧ E < B) := ⟨by omega, by omega, by omega, by omega, by omega, by omega⟩
  have HTW : Hid (w.heap.size = TB) := hTB
  rw [hTB]
  clear hB hE hP hTB HT HP HE HR HN
  go_wp2_with fail
  refine (whole_walk B s w4 ⟨HR'.out, by omega, hs, HG.out, HLE.out.2.2.2.2.1, by omega⟩ HNL.out).mono ?_
  intro r w5 h5
  cases hc : wholeOf s with
  | out => rw [hc] at h5; exact h5.elim
  | bad a c =>
    rw [hc] at h5
    obtain ⟨rfl, hg5⟩ := h5
    have hbw5 : Below w.heap.size w w5 := below_grown HB.out hg5 HLE.out.2.2.2.1
    have HB5 : Hid (Below w.heap.size w w5) := hbw5
    have HT5 : Hid (NB w5 TB zeroNd) := HT'.out.grown hg5 (by have := HTB.out; simp; exact this)
    have HP5 : Hid (IB w5 P 3 0) := HP'.out.grown hg5 (by have := HPB.out; simp; exact this)
    have HE5 : Hid (IB w5 E 31 0) := HE'.out.grown hg5 (by have := HEB.out; simp; exact this)
    have HC : Hid (wholeOf s = .bad a c) := hc
    clear hc hg5 hbw5
    go_wp2
    refine leaves_cons (f := 43) (args := #[.pointer (some ⟨TB, 0, none⟩), .pointer (some ⟨P, 0, none⟩), .pointer (some ⟨E, 0, none⟩)]) (by simp) (by simp [go_sem]) ?_
    refine (catch_panicking TB P E a c zeroNd 0 0 w5 HT5.out HP5.out HE5.out HTP.out HTE.out HPE.out w.heap.size HLE.out.1 HLE.out.2.1 HLE.out.2.2.1 HB5.out.size).mono ?_
    rintro e u' w6 ⟨rfl, rfl, q1, q2, q3, q4⟩
    have hbw : Below w.heap.size w w6 := ⟨q4.os.trans HB5.out.os, q4.tape.trans HB5.out.tape, q4.output.trans HB5.out.output, Nat.le_trans HB5.out.size q4.size, fun b hb => (q4.block b hb).trans (HB5.out.block b hb)⟩
    refine ⟨_, res24 rfl rfl rfl q1 q2 q3, hbw, ?_⟩
    rw [HC.out]
  | ok t j =>
    rw [hc] at h5
    obtain ⟨hj, v, rfl, ⟨x, rfl, hx⟩, hr5, hg5⟩ := h5
    have hbw5 : Below w.heap.size w w5 := below_grown HB.out hg5 HLE.out.2.2.2.1
    have HB5 : Hid (Below w.heap.size w w5) := hbw5
    have HT5 : Hid (NB w5 TB zeroNd) := HT'.out.grown hg5 (by have := HTB.out; simp; exact this)
    have HP5 : Hid (IB w5 P 3 0) := HP'.out.grown hg5 (by have := HPB.out; simp; exact this)
    have HE5 : Hid (IB w5 E 31 0) := HE'.out.grown hg5 (by have := HEB.out; simp; exact this)
    have HX5 : Hid (NodeAt (fun b => w4.heap.size ≤ b) w5 t x) := hx
    have HC : Hid (wholeOf s = .ok t j) := hc
    clear hc hg5 hbw5 hx hr5
    obtain ⟨z0, z1, z2, z3, z4, z5, z6, z7⟩ := HT5.out.cells
    have y0 := HT5.out.frozen 0
    have y1 := HT5.out.frozen 1
    have y2 := HT5.out.frozen 2
    have y3 := HT5.out.frozen 3
    have y4 := HT5.out.frozen 4
    have y5 := HT5.out.frozen 5
    have y6 := HT5.out.frozen 6
    have y7 := HT5.out.frozen 7
    have p0 := HP5.out.cell
    have p1 := HP5.out.frozen
    have e0 := HE5.out.cell
    have e1 := HE5.out.frozen
    have d1 := HTP.out
    have d2 := HTE.out
    have d3 := HPE.out
    unfold Nd.val
    go_wp2
    refine leaves_cons (f := 43) (args := #[.pointer (some ⟨TB, 0, none⟩), .pointer (some ⟨P, 0, none⟩), .pointer (some ⟨E, 0, none⟩)]) (by simp) (by simp [go_sem]) ?_
    refine (catch_idle ⟨TB, 0, none⟩ ⟨P, 0, none⟩ ⟨E, 0, none⟩ _).mono ?_
    rintro e u' w'' ⟨rfl, rfl, rfl⟩
    have hT6 : NB (((put8 w5 TB x).setCell ⟨P, 0, none⟩ (.int .i64 0)).setCell ⟨E, 0, none⟩ (.int .i64 0)) TB x := ((HT5.out.put8 x).set d1 _ _).set d2 _ _
    have hP6 : IB (((put8 w5 TB x).setCell ⟨P, 0, none⟩ (.int .i64 0)).setCell ⟨E, 0, none⟩ (.int .i64 0)) P 3 0 := ((HP5.out.put8 d1.symm x).put 0).other d3 _ _
    have hE6 : IB (((put8 w5 TB x).setCell ⟨P, 0, none⟩ (.int .i64 0)).setCell ⟨E, 0, none⟩ (.int .i64 0)) E 31 0 := ((HE5.out.put8 d2.symm x).other d3.symm _ _).put 0
    have hB6 : Below w.heap.size w (((put8 w5 TB x).setCell ⟨P, 0, none⟩ (.int .i64 0)).setCell ⟨E, 0, none⟩ (.int .i64 0)) := ((below_put8 HB5.out HLE.out.1 x).setCell (p := ⟨P, 0, none⟩) HLE.out.2.1 _).setCell (p := ⟨E, 0, none⟩) HLE.out.2.2.1 _
    refine ⟨_, res24 rfl rfl rfl hT6 hP6 hE6, hB6, ?_⟩
    rw [HC.out]
    have hEB := HLE.out.2.2.2.2.2
    have hz := HR'.out.lt
    have hb := HB.out.size
    have l1 := HP'.out.lt
    have l2 := HT'.out.lt
    refine ⟨x, rfl, HX5.out.keep (fun b hb _ => by omega) (fun b hb _ => ?_)⟩
    rw [Below.heap_setCell _ ⟨E, 0, none⟩ _ b (by show b ≠ E; omega), Below.heap_setCell _ ⟨P, 0, none⟩ _ b (by show b ≠ P; omega)]
    exact heap_put8 w5 TB x b (by omega)
end Go.Proofs.Ytjmbimgofceanaa

/- ere.Parse. -/
namespace Go.Proofs.Ytjmbimgofceanaa
open Go.RowKit
attribute [local go_sem ↓] Go.wp_at_zero Go.wp_at_succ

/-- where the first newline stands, or -1 -/
def newlineAt (s : ByteArray) : Int := Lib.indexByte s.data.toList 10
/-- a pattern, parsed -/
def parseOf (s : ByteArray) : Rs Tr := if 1024 < s.size then .bad 1024 40 else if 0 ≤ newlineAt s then .bad (newlineAt s).toNat 41 else wholeOf s
def ParsePost (w : World) (s : ByteArray) : Ending → World → Prop := fun e w' => Below w.heap.size w w' ∧ match parseOf s with
  | .ok t _ => ∃ x : Nd, e = .returned (.tuple #[x.val, .int .i64 0, .int .i64 0]) ∧ NodeAt (fun b => w.heap.size ≤ b) w' t x
  | .bad i c => e = .returned (.tuple #[zeroNd.val, .int .i64 (i : Nat), .int .i64 (c : Nat)])
  | .out => False
theorem no_newline {s : ByteArray} (h : ¬ 0 ≤ newlineAt s) : ∀ i, byt s i ≠ 10 := by
  intro i hi
  apply h
  unfold newlineAt
  rw [indexByte_mem]
  unfold byt at hi
  split at hi
  · rename_i hlt
    have h10 : s[i] = 10 := by rw [← UInt8.toNat_inj]; exact hi
    have h2 : i < s.data.toList.length := by simpa using hlt
    have h3 : s.data.toList[i] = s[i] := by simp; rfl
    rw [← h10, ← h3]
    exact List.getElem_mem h2
  · omega
set_option maxRecDepth 4000 in
theorem res9 {tmps : Array Value} {w : World} {R : Nat} {x : Nd} {v3 v4 : Value} (h2 : tmps[2]?.getD undef = .pointer (some ⟨R, 0, none⟩)) (h3 : tmps[3]?.getD undef = v3) (h4 : tmps[4]?.getD undef = v4) (hR : NB w R x) : (results Try.f9 tmps).run Try.prog w = .ok (.tuple #[x.val, v3, v4]) w := by
  obtain ⟨t0, t1, t2, t3, t4, t5, t6, t7⟩ := hR.cells
  unfold Nd.val
  simp [results, Try.results9, go_sem, h2, h3, h4, t0, t1, t2, t3, t4, t5, t6, t7]
theorem post_parse {Q : Ending → World → Prop} {a : Act} {w : World} {R : Nat} {x : Nd} {v3 v4 : Value} (hd : a.defers = []) (h2 : a.tmps[2]?.getD undef = .pointer (some ⟨R, 0, none⟩)) (h3 : a.tmps[3]?.getD undef = v3) (h4 : a.tmps[4]?.getD undef = v4) (hR : NB w R x) (hQ : Q (.returned (.tuple #[x.val, v3, v4])) w) : bodyPost Try.prog Try.f9 Q .ret a w :=
  bodyPost_ret (res9 h2 h3 h4 hR) hd hQ
set_option maxRecDepth 4000 in
set_option maxHeartbeats 4000000 in
theorem Parse_any (s : ByteArray) (w : World) (gm : GM w) : Calls Try.prog 9 #[.string s] w (ParsePost w s) := by
  have k1 : Below w.heap.size w (w.alloc (.cells #[.int .i64 0, .int .u64 0, .int .u64 0, .int .u64 0, .int .u64 0, .slice none 0 0, .int .i64 0, .int .i64 0] 30)) := (Below.refl _ _).alloc (Nat.le_refl _) _
  have HN1 : Hid (NB (w.alloc (.cells #[.int .i64 0, .int .u64 0, .int .u64 0, .int .u64 0, .int .u64 0, .slice none 0 0, .int .i64 0, .int .i64 0] 30)) w.heap.size zeroNd) := nb_zero w
  have HG1 : Hid (GM (w.alloc (.cells #[.int .i64 0, .int .u64 0, .int .u64 0, .int .u64 0, .int .u64 0, .slice none 0 0, .int .i64 0, .int .i64 0] 30))) := gm.later k1
  have HB1 : Hid (Below w.heap.size w (w.alloc (.cells #[.int .i64 0, .int .u64 0, .int .u64 0, .int .u64 0, .int .u64 0, .slice none 0 0, .int .i64 0, .int .i64 0] 30))) := k1
  obtain ⟨w1, hw1⟩ : ∃ w1, w1 = w.alloc (.cells #[.int .i64 0, .int .u64 0, .int .u64 0, .int .u64 0, .int .u64 0, .slice none 0 0, .int .i64 0, .int .i64 0] 30) := ⟨_, rfl⟩
  obtain ⟨R, hR⟩ : ∃ R, R = w.heap.size := ⟨_, rfl⟩
  rw [← hw1, ← hR] at HN1
  rw [← hw1] at HG1 HB1
  have HW1 : Hid (w.alloc (.cells #[.int .i64 0, .int .u64 0, .int .u64 0, .int .u64 0, .int .u64 0, .slice none 0 0, .int .i64 0, .int .i64 0] 30) = w1) := hw1.symm
  have HRR : Hid (w.heap.size = R) := hR.symm
  clear hw1 hR k1 gm
  obtain ⟨z0, z1, z2, z3, z4, z5, z6, z7⟩ := HN1.out.cells
  have y0 := HN1.out.frozen 0
  have y1 := HN1.out.frozen 1
  have y2 := HN1.out.frozen 2
  have y3 := HN1.out.frozen 3
  have y4 := HN1.out.frozen 4
  have y5 := HN1.out.frozen 5
  have y6 := HN1.out.frozen 6
  have y7 := HN1.out.frozen 7
  by_cases hlen : 1024 < s.size
  · have HX : Hid (parseOf s = .bad 1024 40) := by show _ = _; unfold parseOf; rw [if_pos hlen]
    have hlen' : (1024 : Int) < (s.size : Int) := by omega
    clear hlen
    go_enter Try.func9, Try.ntmps9
    go_upto_region 1 with fail
    rw [HW1.out, HRR.out]
    go_wp2
    refine post_parse (R := R) (x := zeroNd) rfl rfl rfl rfl ?_ ?_
    · show NB (put8z w1 R 0 none 0 0 0 0) R zeroNd
      rw [put8z_eq]
      exact HN1.out.put8 _
    · show ParsePost w s _ (put8z w1 R 0 none 0 0 0 0)
      rw [put8z_eq]
      refine ⟨below_put8 HB1.out (Nat.le_of_eq HRR.out) _, ?_⟩
      rw [HX.out]
      rfl
  · have hlen' : ¬ (1024 : Int) < (s.size : Int) := by omega
    have HIX : Hid (∀ v, Calls Try.prog 26 #[.string s, .int .u8 10] v fun e w' => e = .returned (.int .i64 (newlineAt s)) ∧ w' = v) := fun v => (Try.strings_IndexByte s 10 v).mono (fun _ _ h => ⟨by rw [h.1]; rfl, h.2⟩)
    have HS0 : Hid (s.size ≤ 1024) := by show _ ≤ _; omega
    have HPO : Hid (parseOf s = if 0 ≤ newlineAt s then .bad (newlineAt s).toNat 41 else wholeOf s) := by show _ = _; unfold parseOf; rw [if_neg hlen]
    have HNN : Hid (¬ 0 ≤ newlineAt s → ∀ i, byt s i ≠ 10) := no_newline
    obtain ⟨z, hz⟩ : ∃ z, z = newlineAt s := ⟨_, rfl⟩
    rw [← hz] at HIX HPO HNN
    clear hlen hz
    go_enter Try.func9, Try.ntmps9
    go_upto_region 1 with fail
    rw [HW1.out, HRR.out]
    go_wp2_with fail
    refine (HIX.out _).mono ?_
    rintro e w2 ⟨rfl, hw2⟩
    have hw2 := hw2.symm
    subst hw2
    by_cases h0 : 0 ≤ z
    · have HX : Hid (parseOf s = .bad z.toNat 41) := by show _ = _; rw [HPO.out, if_pos h0]
      go_wp2
      refine post_parse (R := R) (x := zeroNd) rfl rfl rfl rfl ?_ ?_
      · show NB (put8z _ R 0 none 0 0 0 0) R zeroNd
        rw [put8z_eq]
        exact HN1.out.put8 _
      · show ParsePost w s _ (put8z _ R 0 none 0 0 0 0)
        rw [put8z_eq]
        refine ⟨below_put8 HB1.out (Nat.le_of_eq HRR.out) _, ?_⟩
        rw [HX.out]
        show Ending.returned (.tuple #[zeroNd.val, .int .i64 z, .int .i64 41]) = _
        rw [show z = ((z.toNat : Nat) : Int) by omega]
        rfl
    · have HX : Hid (parseOf s = wholeOf s) := by show _ = _; rw [HPO.out, if_neg h0]
      have HNL : Hid (∀ i, byt s i ≠ 10) := HNN.out (by omega)
      go_wp2_with fail
      refine (read_any s _ HS0.out HNL.out HG1.out).mono ?_
      intro e w3 h3
      unfold ReadPost at h3
      obtain ⟨k3, h3⟩ := h3
      have HB3 : Hid (Below w.heap.size w w3) := below_step HB1.out k3
      have HN3 : Hid (NB w3 R zeroNd) := HN1.out.later k3
      have HZ : Hid (w.heap.size + 1 ≤ w1.heap.size) := by have := HN1.out.lt; have := HRR.out; show _ ≤ _; omega
      clear k3 z0 z1 z2 z3 z4 z5 z6 z7 y0 y1 y2 y3 y4 y5 y6 y7
      obtain ⟨z0, z1, z2, z3, z4, z5, z6, z7⟩ := HN3.out.cells
      have y0 := HN3.out.frozen 0
      have y1 := HN3.out.frozen 1
      have y2 := HN3.out.frozen 2
      have y3 := HN3.out.frozen 3
      have y4 := HN3.out.frozen 4
      have y5 := HN3.out.frozen 5
      have y6 := HN3.out.frozen 6
      have y7 := HN3.out.frozen 7
      cases hc : wholeOf s with
      | out => rw [hc] at h3; exact h3.elim
      | bad a c =>
        rw [hc] at h3 HX
        subst h3
        clear hc
        unfold Nd.val
        go_wp2
        refine post_parse (R := R) (x := zeroNd) rfl rfl rfl rfl (HN3.out.put8 zeroNd) ?_
        refine ⟨below_put8 HB3.out (Nat.le_of_eq HRR.out) zeroNd, ?_⟩
        rw [HX.out]
        rfl
      | ok t j =>
        rw [hc] at h3 HX
        obtain ⟨x, rfl, hx⟩ := h3
        have HXN : Hid (NodeAt (fun b => w.heap.size + 1 ≤ b) w3 t x) := hx.keep (fun b hb _ => Nat.le_trans HZ.out hb) (fun _ _ _ => rfl)
        clear hc hx
        unfold Nd.val
        go_wp2
        refine post_parse (R := R) (x := x) rfl rfl rfl rfl (HN3.out.put8 x) ?_
        refine ⟨below_put8 HB3.out (Nat.le_of_eq HRR.out) x, ?_⟩
        rw [HX.out]
        have hRR := HRR.out
        exact ⟨x, rfl, HXN.out.keep (fun b hb _ => by omega) (fun b hb _ => heap_put8 w3 R x b (by omega))⟩
end Go.Proofs.Ytjmbimgofceanaa

/- A greater bound reads the same. -/
namespace Go.Proofs.Ytjmbimgofceanaa

theorem setLoop_more {s : ByteArray} {o : Nat} : ∀ {f : Nat} {a : Oct.S} {i : Nat}, setLoop s o f a i ≠ .out → setLoop s o (f + 1) a i = setLoop s o f a i := by
  intro f
  induction f with
  | zero => intro a i h; exact absurd rfl h
  | succ f ih =>
    intro a i h
    rw [setLoop] at h
    rw [setLoop, setLoop]
    split
    · rfl
    · rename_i h93
      rw [if_neg h93] at h
      cases hc : item s o i with
      | ok b j =>
        rw [hc] at h
        exact ih h
      | bad x e => rfl
      | out => rfl
theorem setOf_more {s : ByteArray} {f i : Nat} (h : setOf s f i ≠ .out) : setOf s (f + 1) i = setOf s f i := by
  unfold setOf at h ⊢
  cases hc : item s i (if sees s (i + 1) 94 = true then i + 2 else i + 1) with
  | ok a j =>
    rw [hc] at h
    simp only at h ⊢
    have h1 : setLoop s i f a j ≠ .out := fun e => h (by rw [e])
    rw [setLoop_more h1]
  | bad x e => rfl
  | out => rfl
theorem read_more (s : ByteArray) (n : Nat) : (∀ d i, pat s n d i ≠ .out → pat s (n + 1) d i = pat s n d i) ∧ (∀ d acc i, patLoop s n d acc i ≠ .out → patLoop s (n + 1) d acc i = patLoop s n d acc i) ∧ (∀ d i, alt s n d i ≠ .out → alt s (n + 1) d i = alt s n d i) ∧ (∀ d acc i, altLoop s n d acc i ≠ .out → altLoop s (n + 1) d acc i = altLoop s n d acc i) ∧ (∀ d i, piece s n d i ≠ .out → piece s (n + 1) d i = piece s n d i) ∧ (∀ d i, atom s n d i ≠ .out → atom s (n + 1) d i = atom s n d i) ∧ (∀ d i, group s n d i ≠ .out → group s (n + 1) d i = group s n d i) := by
  induction n with
  | zero => refine ⟨?_, ?_, ?_, ?_, ?_, ?_, ?_⟩ <;> intros <;> rename_i h <;> simp [pat, patLoop, alt, altLoop, piece, atom, group] at h
  | succ n ih =>
    obtain ⟨i1, i2, i3, i4, i5, i6, i7⟩ := ih
    refine ⟨fun d i h => ?_, fun d acc i h => ?_, fun d i h => ?_, fun d acc i h => ?_, fun d i h => ?_, fun d i h => ?_, fun d i h => ?_⟩
    · rw [pat] at h
      rw [pat, pat]
      have h1 : alt s n d i ≠ .out := fun e => h (by rw [e])
      rw [i3 d i h1]
      cases hc : alt s n d i with
      | ok t j => rw [hc] at h; exact i2 _ _ _ h
      | bad a e => rfl
      | out => rfl
    · rw [patLoop] at h
      rw [patLoop, patLoop]
      split
      · rename_i hs
        rw [if_pos hs] at h
        have h1 : alt s n d (i + 1) ≠ .out := fun e => h (by rw [e])
        rw [i3 d (i + 1) h1]
        cases hc : alt s n d (i + 1) with
        | ok t j => rw [hc] at h; exact i2 _ _ _ h
        | bad a e => rfl
        | out => rfl
      · rfl
    · rw [alt] at h
      rw [alt, alt]
      exact i4 _ _ _ h
    · rw [altLoop] at h
      rw [altLoop, altLoop]
      split
      · rename_i hs
        rw [if_pos hs] at h
        have h1 : piece s n d i ≠ .out := fun e => h (by rw [e])
        rw [i5 d i h1]
        cases hc : piece s n d i with
        | ok t j => rw [hc] at h; exact i4 _ _ _ h
        | bad a e => rfl
        | out => rfl
      · rfl
    · rw [piece] at h
      rw [piece, piece]
      split
      · rfl
      · rename_i h94
        rw [if_neg h94] at h
        split
        · rfl
        · rename_i h36
          rw [if_neg h36] at h
          have h1 : atom s n d i ≠ .out := fun e => h (by rw [e])
          rw [i6 d i h1]
    · rw [atom] at h
      rw [atom, atom]
      split
      · rfl
      · rename_i g1
        rw [if_neg g1] at h
        split
        · rename_i g2
          rw [if_pos g2] at h
          exact i7 _ _ h
        · rename_i g2
          rw [if_neg g2] at h
          split
          · rename_i g3
            rw [if_pos g3] at h
            have h1 : setOf s n i ≠ .out := fun e => h (by rw [e])
            rw [setOf_more h1]
          · rfl
    · rw [group] at h
      rw [group, group]
      split
      · rfl
      · rename_i g1
        rw [if_neg g1] at h
        have h1 : pat s n (d + 1) (i + 1) ≠ .out := fun e => h (by rw [e])
        rw [i1 _ _ h1]
theorem pat_more {s : ByteArray} {n d i : Nat} (h : pat s n d i ≠ .out) : ∀ k, pat s (n + k) d i = pat s n d i := by
  intro k
  induction k with
  | zero => rfl
  | succ k ih => rw [← Nat.add_assoc, (read_more s (n + k)).1 d i (by rw [ih]; exact h), ih]
end Go.Proofs.Ytjmbimgofceanaa

/- Two patterns that agree ahead of a place: what is read ahead of it is the same. -/
namespace Go.Proofs.Ytjmbimgofceanaa

theorem prefix_agree : ∀ (l l' : List UInt8) (N : Nat), 2 ≤ N → l.take N = l'.take N → ([58, 93] : List UInt8).isPrefixOf l = ([58, 93] : List UInt8).isPrefixOf l' := by
  intro l l' N hN h
  obtain ⟨M, rfl⟩ : ∃ M, N = M + 2 := ⟨N - 2, by omega⟩
  match l, l', h with
  | [], [], _ => rfl
  | [], _ :: _, h => simp at h
  | _ :: _, [], h => simp at h
  | [a], [b], h => simp at h; rw [h]
  | [a], b :: c :: r, h => simp at h
  | a :: c :: r, [b], h => simp at h
  | a :: c :: r, b :: d :: q, h =>
    simp at h
    rw [h.1, h.2.1]
    rfl
theorem index_agree : ∀ (l l' : List UInt8) (N : Nat), l.take N = l'.take N → 0 ≤ Go.Lib.index l [58, 93] → Go.Lib.index l [58, 93] + 2 ≤ N → Go.Lib.index l' [58, 93] = Go.Lib.index l [58, 93] := by
  intro l
  induction l with
  | nil => intro l' N _ h; simp [Go.Lib.index] at h
  | cons b l ih =>
    intro l' N h h0 hN
    obtain ⟨M, rfl⟩ : ∃ M, N = M + 1 := ⟨N - 1, by omega⟩
    cases l' with
    | nil => simp at h
    | cons c q =>
      have hp := prefix_agree (b :: l) (c :: q) (M + 1) (by omega) h
      have ht : l.take M = q.take M := by simp at h; exact h.2
      unfold Go.Lib.index at h0 hN ⊢
      rw [← hp]
      split
      · rfl
      · rename_i hn
        rw [if_neg hn] at h0 hN
        split at h0
        · omega
        · rename_i h1
          rw [if_neg h1] at hN
          have h2 : 0 ≤ Go.Lib.index l [58, 93] := by
            have := Go.Lib.index_ge l [58, 93]
            have h3 : ¬ Go.Lib.index l [58, 93] = -1 := by simpa using h1
            omega
          have := ih q M ht h2 (by omega)
          rw [this]
section
variable {s s' : ByteArray} {m : Nat}
structure Agree (s s' : ByteArray) (m : Nat) : Prop where
  same : ∀ i, i < m → byt s i = byt s' i
  le : m ≤ s.size
  le' : m ≤ s'.size
theorem Agree.sees (h : Agree s s' m) {i : Nat} (hi : i < m) (b : Nat) : Ytjmbimgofceanaa.sees s' i b = Ytjmbimgofceanaa.sees s i b := by
  have h1 := h.le
  have h2 := h.le'
  unfold Ytjmbimgofceanaa.sees
  rw [h.same i hi, decide_eq_true (show i < s.size by omega), decide_eq_true (show i < s'.size by omega)]
theorem Agree.digit (h : Agree s s' m) {i : Nat} (hi : i < m) : isDigit s' i = isDigit s i := by
  have h1 := h.le
  have h2 := h.le'
  unfold isDigit
  rw [h.same i hi, decide_eq_true (show i < s.size by omega), decide_eq_true (show i < s'.size by omega)]
theorem Agree.digits (h : Agree s s' m) : ∀ (f i n : Nat), (Ytjmbimgofceanaa.digits s f i n).2 < m → Ytjmbimgofceanaa.digits s' f i n = Ytjmbimgofceanaa.digits s f i n := by
  intro f
  induction f with
  | zero => intro i n _; rfl
  | succ f ih =>
    intro i n hlt
    have hb := (digits_bound s (f + 1) i n).2.1
    have hi : i < m := by omega
    rw [Ytjmbimgofceanaa.digits] at hlt
    rw [Ytjmbimgofceanaa.digits, Ytjmbimgofceanaa.digits, h.digit hi]
    split
    · rename_i hd
      rw [if_pos hd] at hlt
      rw [h.same i hi] at hlt ⊢
      exact ih _ _ hlt
    · rfl
theorem Agree.count (h : Agree s s' m) {o i n j : Nat} (hc : Ytjmbimgofceanaa.count s o i = .ok n j) (hj : j < m) : Ytjmbimgofceanaa.count s' o i = .ok n j := by
  unfold Ytjmbimgofceanaa.count at hc ⊢
  split at hc
  · cases hc
  · rename_i hne
    cases hc
    rw [h.digits 3 i 0 hj, if_neg hne]
theorem Agree.countsEnd (h : Agree s s' m) {o j k : Nat} {l x : Int} {y : Int × Int} (hc : Ytjmbimgofceanaa.countsEnd s o l x j = .ok y k) (hj : j < m) : Ytjmbimgofceanaa.countsEnd s' o l x j = .ok y k := by
  unfold Ytjmbimgofceanaa.countsEnd at hc ⊢
  rw [h.sees hj]
  exact hc
theorem Agree.counts (h : Agree s s' m) {i j : Nat} {x : Int × Int} (hc : Ytjmbimgofceanaa.counts s i = .ok x j) (hj : j < m) : Ytjmbimgofceanaa.counts s' i = .ok x j := by
  unfold Ytjmbimgofceanaa.counts at hc ⊢
  cases h1 : Ytjmbimgofceanaa.count s i (i + 1) with
  | bad a e => rw [h1] at hc; cases hc
  | out => rw [h1] at hc; cases hc
  | ok l k =>
    rw [h1] at hc
    simp only at hc
    have hkj : k ≤ j := by
      split at hc
      · split at hc
        · have := countsEnd_ge hc; omega
        · split at hc
          · rename_i m' k2 hc2
            have := count_ge hc2
            have := countsEnd_ge hc
            omega
          · cases hc
          · cases hc
      · have := countsEnd_ge hc; omega
    rw [h.count h1 (by omega)]
    simp only
    rw [h.sees (by omega : k < m)]
    split at hc
    · rename_i g1
      rw [if_pos g1]
      split at hc
      · rename_i g2
        have := countsEnd_ge hc
        rw [h.sees (by omega : k + 1 < m), if_pos g2]
        exact h.countsEnd hc (by omega)
      · rename_i g2
        split at hc
        · rename_i m' k2 hc2
          have h2 := count_ge hc2
          have h3 := countsEnd_ge hc
          rw [h.sees (by omega : k + 1 < m), if_neg g2, h.count hc2 (by omega)]
          exact h.countsEnd hc (by omega)
        · cases hc
        · cases hc
    · rename_i g1
      rw [if_neg g1]
      have h3 := countsEnd_ge hc
      exact h.countsEnd hc (by omega)
theorem Agree.repeated (h : Agree s s' m) {t u : Tr} {i j : Nat} (hc : Ytjmbimgofceanaa.repeated s t i = .ok u j) (hj : j < m) : Ytjmbimgofceanaa.repeated s' t i = .ok u j := by
  have hge := repeated_ge hc
  unfold Ytjmbimgofceanaa.repeated at hc ⊢
  rw [h.sees (by omega : i < m), h.sees (by omega : i < m), h.sees (by omega : i < m), h.sees (by omega : i < m)]
  split at hc
  · rename_i g; rw [if_pos g]; exact hc
  · rename_i g
    rw [if_neg g]
    split at hc
    · rename_i g; rw [if_pos g]; exact hc
    · rename_i g
      rw [if_neg g]
      split at hc
      · rename_i g; rw [if_pos g]; exact hc
      · rename_i g
        rw [if_neg g]
        split at hc
        · rename_i g
          rw [if_pos g]
          split at hc
          · rename_i l x k hc2
            cases hc
            rw [h.counts hc2 (by omega)]
          · cases hc
          · cases hc
        · rename_i g; rw [if_neg g]; exact hc
end
end Go.Proofs.Ytjmbimgofceanaa

/- Two patterns that agree ahead of a place: sets. -/
namespace Go.Proofs.Ytjmbimgofceanaa

section
variable {s s' : ByteArray} {m : Nat}
theorem rest_len (s : ByteArray) (k : Nat) : (rest s k).data.toList.length = s.size - k := by
  have h := rest_size s k
  simpa using h
theorem Agree.rest (h : Agree s s' m) {k : Nat} (hk : k ≤ m) : (Ytjmbimgofceanaa.rest s k).data.toList.take (m - k) = (Ytjmbimgofceanaa.rest s' k).data.toList.take (m - k) := by
  have h1 := h.le
  have h2 := h.le'
  have l1 := rest_len s k
  have l2 := rest_len s' k
  apply List.ext_getElem
  · rw [List.length_take, List.length_take, l1, l2]; omega
  · intro i g1 g2
    rw [List.length_take] at g1 g2
    rw [List.getElem_take, List.getElem_take]
    have e1 := byt_list (Ytjmbimgofceanaa.rest s k) i
    have e2 := byt_list (Ytjmbimgofceanaa.rest s' k) i
    rw [rest_byt, List.getD_eq_getElem?_getD, List.getElem?_eq_getElem (by omega)] at e1 e2
    have e3 := h.same (k + i) (by omega)
    rw [e1, e2] at e3
    simpa [UInt8.toNat_inj] using e3
theorem Agree.cls (h : Agree s s' m) {o i j : Nat} {x : Oct.S} (hc : class_ s o i = .ok x j) (hj : j ≤ m) : class_ s' o i = .ok x j := by
  unfold class_ at hc
  split at hc
  · rename_i he
    split at hc
    · rename_i hz
      cases hc
      have hk : i + 2 ≤ m := by omega
      have hr := h.rest hk
      have l1 := rest_len s (i + 2)
      have l2 := rest_len s' (i + 2)
      have hl := h.le
      have hl' := h.le'
      obtain ⟨l, el⟩ : ∃ l, l = (Ytjmbimgofceanaa.rest s (i + 2)).data.toList := ⟨_, rfl⟩
      obtain ⟨l', el'⟩ : ∃ l, l = (Ytjmbimgofceanaa.rest s' (i + 2)).data.toList := ⟨_, rfl⟩
      have he2 : 0 ≤ Go.Lib.index l [58, 93] := by
        unfold classEnds Go.Lib.cut at he
        rw [← el] at he
        split at he
        · assumption
        · cases he
      have hroom := Go.Lib.index_room l [58, 93] he2
      have hname : className s i = ⟨(l.take (Go.Lib.index l [58, 93]).toNat).toArray⟩ := by
        unfold className Go.Lib.cut
        rw [← el, if_pos he2]
      have hsz : (className s i).size = (Go.Lib.index l [58, 93]).toNat := by
        rw [hname]
        have : (⟨(l.take (Go.Lib.index l [58, 93]).toNat).toArray⟩ : ByteArray).size = (l.take (Go.Lib.index l [58, 93]).toNat).length := by simp [ByteArray.size]
        rw [this, List.length_take]
        simp at hroom
        omega
      rw [← el, ← el'] at hr
      rw [← el] at l1
      rw [← el'] at l2
      have hi2 := index_agree l l' (m - (i + 2)) hr he2 (by omega)
      have he2' : 0 ≤ Go.Lib.index l' [58, 93] := by rw [hi2]; exact he2
      have hname' : className s' i = className s i := by
        rw [hname]
        unfold className Go.Lib.cut
        rw [← el', if_pos he2', hi2]
        have e1 : l'.take (Go.Lib.index l [58, 93]).toNat = (l'.take (m - (i + 2))).take (Go.Lib.index l [58, 93]).toNat := by
          rw [List.take_take, Nat.min_eq_left (by omega)]
        have e2 : l.take (Go.Lib.index l [58, 93]).toNat = (l.take (m - (i + 2))).take (Go.Lib.index l [58, 93]).toNat := by
          rw [List.take_take, Nat.min_eq_left (by omega)]
        simp only
        rw [e1, e2, hr]
      have he' : classEnds s' i = true := by
        unfold classEnds Go.Lib.cut
        rw [← el', if_pos he2']
      unfold class_
      rw [if_pos he', hname', if_pos hz]
    · cases hc
  · cases hc
theorem Agree.special (h : Agree s s' m) {i : Nat} (hi : i + 1 < m) : Ytjmbimgofceanaa.special s' i = Ytjmbimgofceanaa.special s i := by
  have h1 := h.le
  have h2 := h.le'
  unfold Ytjmbimgofceanaa.special
  rw [h.same i (by omega), h.same (i + 1) hi, decide_eq_true (show i + 1 < s.size by omega), decide_eq_true (show i + 1 < s'.size by omega)]
end
end Go.Proofs.Ytjmbimgofceanaa

/- Two patterns that agree ahead of a place: items, sets as a whole. -/
namespace Go.Proofs.Ytjmbimgofceanaa

section
variable {s s' : ByteArray} {m : Nat}
theorem Agree.span (h : Agree s s' m) {i j : Nat} {x : Oct.S} (hc : span_ s i = .ok x j) (hj : j < m) : span_ s' i = .ok x j := by
  have hj3 : j = i + 3 := by
    unfold span_ at hc
    split at hc
    · cases hc
    · cases hc; rfl
  unfold span_ at hc ⊢
  rw [← h.same i (by omega), ← h.same (i + 2) (by omega), h.special (by omega)]
  exact hc
theorem Agree.item (h : Agree s s' m) {o i j c : Nat} {x : Oct.S} (hi : i ≤ s.size) (hc : Ytjmbimgofceanaa.item s o i = .ok x j) (hj : j ≤ c) (hcm : c < m) (h93 : byt s c = 93) : Ytjmbimgofceanaa.item s' o i = .ok x j := by
  have hl := h.le
  have hl' := h.le'
  have hge := item_ge hc
  have h1 : byt s' i = byt s i := (h.same i (by omega)).symm
  have h2 : byt s' (i + 1) = byt s (i + 1) := (h.same (i + 1) (by omega)).symm
  have d1 : decide (i + 1 < s'.size) = decide (i + 1 < s.size) := by rw [decide_eq_true (show i + 1 < s.size by omega), decide_eq_true (show i + 1 < s'.size by omega)]
  have h3 : (decide (i + 2 < s'.size) && decide (byt s' (i + 1) = 45) && decide (byt s' (i + 2) ≠ 93)) = (decide (i + 2 < s.size) && decide (byt s (i + 1) = 45) && decide (byt s (i + 2) ≠ 93)) := by
    by_cases h45 : byt s (i + 1) = 45
    · have hne : c ≠ i + 1 := fun e => by rw [e, h45] at h93; cases h93
      have hlt : i + 2 < m := by omega
      rw [← h.same (i + 2) hlt, h2, decide_eq_true (show i + 2 < s.size by omega), decide_eq_true (show i + 2 < s'.size by omega)]
    · rw [h2]
      simp [h45]
  unfold Ytjmbimgofceanaa.item at hc ⊢
  rw [if_neg (show ¬ i = s'.size by omega), d1, h1, h2, h.special (show i + 1 < m by omega)]
  rw [if_neg (show ¬ i = s.size by omega)] at hc
  rw [h2] at h3
  rw [h3]
  split at hc
  · rename_i g; rw [if_pos g]; exact h.cls hc (by omega)
  · rename_i g
    rw [if_neg g]
    split at hc
    · cases hc
    · rename_i g
      rw [if_neg g]
      split at hc
      · rename_i g; rw [if_pos g]; exact h.span hc (by omega)
      · rename_i g; rw [if_neg g]; exact hc
theorem setLoop_ends {o : Nat} : ∀ {f : Nat} {a x : Oct.S} {i j : Nat}, setLoop s o f a i = .ok x j → i < j ∧ byt s (j - 1) = 93 := by
  intro f
  induction f with
  | zero => intro a x i j h; simp [setLoop] at h
  | succ f ih =>
    intro a x i j h
    rw [setLoop] at h
    split at h
    · rename_i g
      cases h
      unfold Ytjmbimgofceanaa.sees at g
      simp at g
      exact ⟨by omega, by simpa using g.2⟩
    · split at h
      · rename_i b k hc
        have := item_ge hc
        have := ih h
        exact ⟨by omega, this.2⟩
      · cases h
      · cases h
theorem Agree.setLoop (h : Agree s s' m) {o : Nat} : ∀ {f : Nat} {a x : Oct.S} {i j : Nat}, i ≤ s.size → Ytjmbimgofceanaa.setLoop s o f a i = .ok x j → j ≤ m → Ytjmbimgofceanaa.setLoop s' o f a i = .ok x j := by
  intro f
  induction f with
  | zero => intro a x i j _ h; simp [Ytjmbimgofceanaa.setLoop] at h
  | succ f ih =>
    intro a x i j hi hc hj
    have hend := setLoop_ends hc
    rw [Ytjmbimgofceanaa.setLoop] at hc ⊢
    rw [h.sees (show i < m by omega)]
    split at hc
    · rename_i g; rw [if_pos g]; exact hc
    · rename_i g
      rw [if_neg g]
      split at hc
      · rename_i b k hc2
        have h1 := setLoop_ends hc
        have h2 := item_le hi hc2
        rw [h.item hi hc2 (show k ≤ j - 1 by omega) (by omega) hend.2]
        exact ih h2.1 hc hj
      · cases hc
      · cases hc
theorem Agree.setOf (h : Agree s s' m) {f i j : Nat} {x : Oct.S} (hi : i < s.size) (hc : Ytjmbimgofceanaa.setOf s f i = .ok x j) (hj : j ≤ m) : Ytjmbimgofceanaa.setOf s' f i = .ok x j := by
  have hl := h.le
  unfold Ytjmbimgofceanaa.setOf at hc ⊢
  have hb : (if Ytjmbimgofceanaa.sees s (i + 1) 94 = true then i + 2 else i + 1) ≤ s.size := by
    split
    · rename_i g; have := sees_lt g; omega
    · omega
  cases h1 : Ytjmbimgofceanaa.item s i (if Ytjmbimgofceanaa.sees s (i + 1) 94 = true then i + 2 else i + 1) with
  | bad a e => rw [h1] at hc; cases hc
  | out => rw [h1] at hc; cases hc
  | ok a k =>
    rw [h1] at hc
    simp only at hc
    have hk := item_le hb h1
    split at hc
    · rename_i b k2 hc2
      have hend := setLoop_ends hc2
      cases hc
      have hk1 : i + 1 < k := by have := hk.2; split at this <;> omega
      rw [h.sees (show i + 1 < m by omega), h.item hb h1 (show k ≤ j - 1 by omega) (by omega) hend.2]
      simp only
      rw [h.setLoop hk.1 hc2 hj]
    · cases hc
    · cases hc
end
end Go.Proofs.Ytjmbimgofceanaa

