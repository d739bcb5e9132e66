/- ere.read. -/
import Derived.Test.YtlcnmfgmgiijpaaG22
namespace Go.Proofs.Ytlcnmfgmgiijpaa
open Go.RowKit
attribute [local go_sem ↓] Go.wp_at_zero Go.wp_at_succ

theorem ib_new (w : World) (t : TypeId) (v : Int) : IB (w.alloc (.cells #[.int .i64 v] t)) w.heap.size t v := heap_alloc_new w _
theorem rb_new (w : World) (s : ByteArray) : RB (w.alloc (.cells #[.string s, .int .i64 0, .int .i64 0] 64)) w.heap.size s 0 0 := heap_alloc_new w _
/-- what read answers -/
def ReadPost (w : World) (s : ByteArray) : Ending → World → Prop := fun e w' => Below w.heap.size w w' ∧ match wholeOf s with
  | .ok t _ => ∃ x : Nd, e = .returned (.tuple #[x.val, .int .i64 0, .int .i64 0]) ∧ NodeAt (fun b => w.heap.size ≤ b) w' t x
  | .bad i c => e = .returned (.tuple #[zeroNd.val, .int .i64 (i : Nat), .int .i64 (c : Nat)])
  | .out => False
theorem below_grown {w u u' : World} {B : Nat} (h : Below w.heap.size w u) (hg : u.grownBy u' (some B)) (hB : w.heap.size ≤ B) : Below w.heap.size w u' :=
  ⟨hg.os.trans h.os, hg.tape.trans h.tape, hg.output.trans h.output, Nat.le_trans h.size hg.size, fun b hb => (hg.block b (Nat.lt_of_lt_of_le hb h.size) (by simp; omega)).trans (h.block b hb)⟩
set_option maxRecDepth 4000 in
theorem res24 {tmps : Array Value} {w : World} {TB P E : Nat} {x : Nd} {a b : Int} (h2 : tmps[2]?.getD undef = .pointer (some ⟨TB, 0, none⟩)) (h3 : tmps[3]?.getD undef = .pointer (some ⟨P, 0, none⟩)) (h4 : tmps[4]?.getD undef = .pointer (some ⟨E, 0, none⟩)) (hT : NB w TB x) (hP : IB w P 3 a) (hE : IB w E 29 b) : (results Try.f24 tmps).run Try.prog w = .ok (.tuple #[x.val, .int .i64 a, .int .i64 b]) w := by
  obtain ⟨t0, t1, t2, t3, t4, t5, t6, t7⟩ := hT.cells
  have p0 := hP.cell
  have e0 := hE.cell
  unfold Nd.val
  simp [results, Try.results24, go_sem, h2, h3, h4, t0, t1, t2, t3, t4, t5, t6, t7, p0, e0]
set_option maxRecDepth 4000 in
set_option maxHeartbeats 4000000 in
theorem read_any (s : ByteArray) (w : World) (hs : s.size ≤ 1024) (hnl : ∀ i, byt s i ≠ 10) (gm : GM w) : Calls Try.prog 24 #[.string s] w (ReadPost w s) := by
  obtain ⟨w1, hw1⟩ : ∃ w1, w1 = w.alloc (.cells #[.int .i64 0, .int .u64 0, .int .u64 0, .int .u64 0, .int .u64 0, .slice none 0 0, .int .i64 0, .int .i64 0] 28) := ⟨_, rfl⟩
  obtain ⟨w2, hw2⟩ : ∃ w2, w2 = w1.alloc (.cells #[.int .i64 0] 3) := ⟨_, rfl⟩
  obtain ⟨w3, hw3⟩ : ∃ w3, w3 = w2.alloc (.cells #[.int .i64 0] 29) := ⟨_, rfl⟩
  obtain ⟨w4, hw4⟩ : ∃ w4, w4 = w3.alloc (.cells #[.string s, .int .i64 0, .int .i64 0] 64) := ⟨_, rfl⟩
  have z1 : w1.heap.size = w.heap.size + 1 := by rw [hw1]; simp
  have z2 : w2.heap.size = w.heap.size + 2 := by rw [hw2]; simp [z1]
  have z3 : w3.heap.size = w.heap.size + 3 := by rw [hw3]; simp [z2]
  have k1 : Below w.heap.size w w1 := by rw [hw1]; exact (Below.refl _ _).alloc (Nat.le_refl _) _
  have k2 : Below w1.heap.size w1 w2 := by rw [hw2]; exact (Below.refl _ _).alloc (Nat.le_refl _) _
  have k3 : Below w2.heap.size w2 w3 := by rw [hw3]; exact (Below.refl _ _).alloc (Nat.le_refl _) _
  have k4 : Below w3.heap.size w3 w4 := by rw [hw4]; exact (Below.refl _ _).alloc (Nat.le_refl _) _
  have HT : Hid (NB w4 w.heap.size zeroNd) := by
    have h : NB w1 w.heap.size zeroNd := by rw [hw1]; exact nb_zero w
    exact ((h.later k2).later k3).later k4
  have HP : Hid (IB w4 (w.heap.size + 1) 3 0) := by
    have h : IB w2 w1.heap.size 3 0 := by rw [hw2]; exact ib_new w1 3 0
    rw [z1] at h
    exact (h.later k3).later k4
  have HE : Hid (IB w4 (w.heap.size + 2) 29 0) := by
    have h : IB w3 w2.heap.size 29 0 := by rw [hw3]; exact ib_new w2 29 0
    rw [z2] at h
    exact h.later k4
  have HR : Hid (RB w4 (w.heap.size + 3) s 0 0) := by
    have h : RB w4 w3.heap.size s 0 0 := by rw [hw4]; exact rb_new w3 s
    rw [z3] at h
    exact h
  have HB : Hid (Below w.heap.size w w4) := below_step (below_step (below_step k1 k2) k3) k4
  have HG : Hid (GM w4) := (((gm.later k1).later k2).later k3).later k4
  have HNL : Hid (∀ i, byt s i ≠ 10) := hnl
  have HW1 : Hid (w.alloc (.cells #[.int .i64 0, .int .u64 0, .int .u64 0, .int .u64 0, .int .u64 0, .slice none 0 0, .int .i64 0, .int .i64 0] 28) = w1) := hw1.symm
  have HW2 : Hid (w1.alloc (.cells #[.int .i64 0] 3) = w2) := hw2.symm
  have HW3 : Hid (w2.alloc (.cells #[.int .i64 0] 29) = w3) := hw3.symm
  have HW4 : Hid (w3.alloc (.cells #[.string s, .int .i64 0, .int .i64 0] 64) = w4) := hw4.symm
  clear hw1 hw2 hw3 hw4 z1 z2 z3 k1 k2 k3 k4 hnl gm
  have hmf : ∀ (fn : Fn) (first cap : Array Value) (w : World), (Instr.makeFunc fn first cap).run Try.prog w = .ok (.func fn first cap) w := fun _ _ _ _ => rfl
  go_enter_defers Try.func24, Try.ntmps24
  go_upto_region 3 with fail
  rw [HW1.out, HW2.out, HW3.out, HW4.out]
  clear HW1 HW2 HW3 HW4 hmf
  have HN : Hid (w.heap.size = w.heap.size) := by show _ = _; rfl
  obtain ⟨B, hB⟩ : ∃ B, w.heap.size + 1 + 1 + 1 = B := ⟨_, rfl⟩
  obtain ⟨E, hE⟩ : ∃ E, w.heap.size + 1 + 1 = E := ⟨_, rfl⟩
  obtain ⟨P, hP⟩ : ∃ P, w.heap.size + 1 = P := ⟨_, rfl⟩
  obtain ⟨TB, hTB⟩ : ∃ TB, w.heap.size = TB := ⟨_, rfl⟩
  rw [hB, hE, hP]
  have HT' : Hid (NB w4 TB zeroNd) := by have := HT.out; rw [hTB] at this; exact this
  have HP' : Hid (IB w4 P 3 0) := by have := HP.out; rw [hP] at this; exact this
  have HE' : Hid (IB w4 E 29 0) := by have := HE.out; rw [show w.heap.size + 2 = E by omega] at this; exact this
  have HR' : Hid (RB w4 B s 0 0) := by have := HR.out; rw [show w.heap.size + 3 = B by omega] at this; exact this
  have HTP : Hid (TB ≠ P) := by show _ ≠ _; omega
  have HTE : Hid (TB ≠ E) := by show _ ≠ _; omega
  have HPE : Hid (P ≠ E) := by show _ ≠ _; omega
  have HTB : Hid (TB ≠ B) := by show _ ≠ _; omega
  have HPB : Hid (P ≠ B) := by show _ ≠ _; omega
  have HEB : Hid (E ≠ B) := by show _ ≠ _; omega
  have HLE : Hid (w.heap.size ≤ TB ∧ w.heap.size ≤ P ∧ w.heap.size ≤ E ∧ w.heap.size ≤ B ∧ B ≠ 0 ∧ E < B) := ⟨by omega, by omega, by omega, by omega, by omega, by omega⟩
  have HTW : Hid (w.heap.size = TB) := hTB
  rw [hTB]
  clear hB hE hP hTB HT HP HE HR HN
  go_wp2_with fail
  refine (whole_walk B s w4 ⟨HR'.out, by omega, hs, HG.out, HLE.out.2.2.2.2.1, by omega⟩ HNL.out).mono ?_
  intro r w5 h5
  cases hc : wholeOf s with
  | out => rw [hc] at h5; exact h5.elim
  | bad a c =>
    rw [hc] at h5
    obtain ⟨rfl, hg5⟩ := h5
    have hbw5 : Below w.heap.size w w5 := below_grown HB.out hg5 HLE.out.2.2.2.1
    have HB5 : Hid (Below w.heap.size w w5) := hbw5
    have HT5 : Hid (NB w5 TB zeroNd) := HT'.out.grown hg5 (by have := HTB.out; simp; exact this)
    have HP5 : Hid (IB w5 P 3 0) := HP'.out.grown hg5 (by have := HPB.out; simp; exact this)
    have HE5 : Hid (IB w5 E 29 0) := HE'.out.grown hg5 (by have := HEB.out; simp; exact this)
    have HC : Hid (wholeOf s = .bad a c) := hc
    clear hc hg5 hbw5
    go_wp2
    refine leaves_cons (f := 32) (args := #[.pointer (some ⟨TB, 0, none⟩), .pointer (some ⟨P, 0, none⟩), .pointer (some ⟨E, 0, none⟩)]) (by simp) (by simp [go_sem]) ?_
    refine (catch_panicking TB P E a c zeroNd 0 0 w5 HT5.out HP5.out HE5.out HTP.out HTE.out HPE.out w.heap.size HLE.out.1 HLE.out.2.1 HLE.out.2.2.1 HB5.out.size).mono ?_
    rintro e u' w6 ⟨rfl, rfl, q1, q2, q3, q4⟩
    have hbw : Below w.heap.size w w6 := ⟨q4.os.trans HB5.out.os, q4.tape.trans HB5.out.tape, q4.output.trans HB5.out.output, Nat.le_trans HB5.out.size q4.size, fun b hb => (q4.block b hb).trans (HB5.out.block b hb)⟩
    refine ⟨_, res24 rfl rfl rfl q1 q2 q3, hbw, ?_⟩
    rw [HC.out]
  | ok t j =>
    rw [hc] at h5
    obtain ⟨hj, v, rfl, ⟨x, rfl, hx⟩, hr5, hg5⟩ := h5
    have hbw5 : Below w.heap.size w w5 := below_grown HB.out hg5 HLE.out.2.2.2.1
    have HB5 : Hid (Below w.heap.size w w5) := hbw5
    have HT5 : Hid (NB w5 TB zeroNd) := HT'.out.grown hg5 (by have := HTB.out; simp; exact this)
    have HP5 : Hid (IB w5 P 3 0) := HP'.out.grown hg5 (by have := HPB.out; simp; exact this)
    have HE5 : Hid (IB w5 E 29 0) := HE'.out.grown hg5 (by have := HEB.out; simp; exact this)
    have HX5 : Hid (NodeAt (fun b => w4.heap.size ≤ b) w5 t x) := hx
    have HC : Hid (wholeOf s = .ok t j) := hc
    clear hc hg5 hbw5 hx hr5
    obtain ⟨z0, z1, z2, z3, z4, z5, z6, z7⟩ := HT5.out.cells
    have y0 := HT5.out.frozen 0
    have y1 := HT5.out.frozen 1
    have y2 := HT5.out.frozen 2
    have y3 := HT5.out.frozen 3
    have y4 := HT5.out.frozen 4
    have y5 := HT5.out.frozen 5
    have y6 := HT5.out.frozen 6
    have y7 := HT5.out.frozen 7
    have p0 := HP5.out.cell
    have p1 := HP5.out.frozen
    have e0 := HE5.out.cell
    have e1 := HE5.out.frozen
    have d1 := HTP.out
    have d2 := HTE.out
    have d3 := HPE.out
    unfold Nd.val
    go_wp2
    refine leaves_cons (f := 32) (args := #[.pointer (some ⟨TB, 0, none⟩), .pointer (some ⟨P, 0, none⟩), .pointer (some ⟨E, 0, none⟩)]) (by simp) (by simp [go_sem]) ?_
    refine (catch_idle ⟨TB, 0, none⟩ ⟨P, 0, none⟩ ⟨E, 0, none⟩ _).mono ?_
    rintro e u' w'' ⟨rfl, rfl, rfl⟩
    have hT6 : NB (((put8 w5 TB x).setCell ⟨P, 0, none⟩ (.int .i64 0)).setCell ⟨E, 0, none⟩ (.int .i64 0)) TB x := ((HT5.out.put8 x).set d1 _ _).set d2 _ _
    have hP6 : IB (((put8 w5 TB x).setCell ⟨P, 0, none⟩ (.int .i64 0)).setCell ⟨E, 0, none⟩ (.int .i64 0)) P 3 0 := ((HP5.out.put8 d1.symm x).put 0).other d3 _ _
    have hE6 : IB (((put8 w5 TB x).setCell ⟨P, 0, none⟩ (.int .i64 0)).setCell ⟨E, 0, none⟩ (.int .i64 0)) E 29 0 := ((HE5.out.put8 d2.symm x).other d3.symm _ _).put 0
    have hB6 : Below w.heap.size w (((put8 w5 TB x).setCell ⟨P, 0, none⟩ (.int .i64 0)).setCell ⟨E, 0, none⟩ (.int .i64 0)) := ((below_put8 HB5.out HLE.out.1 x).setCell (p := ⟨P, 0, none⟩) HLE.out.2.1 _).setCell (p := ⟨E, 0, none⟩) HLE.out.2.2.1 _
    refine ⟨_, res24 rfl rfl rfl hT6 hP6 hE6, hB6, ?_⟩
    rw [HC.out]
    have hEB := HLE.out.2.2.2.2.2
    have hz := HR'.out.lt
    have hb := HB.out.size
    have l1 := HP'.out.lt
    have l2 := HT'.out.lt
    refine ⟨x, rfl, HX5.out.keep (fun b hb _ => by omega) (fun b hb _ => ?_)⟩
    rw [Below.heap_setCell _ ⟨E, 0, none⟩ _ b (by show b ≠ E; omega), Below.heap_setCell _ ⟨P, 0, none⟩ _ b (by show b ≠ P; omega)]
    exact heap_put8 w5 TB x b (by omega)
end Go.Proofs.Ytlcnmfgmgiijpaa

/- ere.Parse. -/
namespace Go.Proofs.Ytlcnmfgmgiijpaa
open Go.RowKit
attribute [local go_sem ↓] Go.wp_at_zero Go.wp_at_succ

/-- where the first newline stands, or -1 -/
def newlineAt (s : ByteArray) : Int := Lib.indexByte s.data.toList 10
/-- a pattern, parsed -/
def parseOf (s : ByteArray) : Rs Tr := if 1024 < s.size then .bad 1024 40 else if 0 ≤ newlineAt s then .bad (newlineAt s).toNat 41 else wholeOf s
def ParsePost (w : World) (s : ByteArray) : Ending → World → Prop := fun e w' => Below w.heap.size w w' ∧ match parseOf s with
  | .ok t _ => ∃ x : Nd, e = .returned (.tuple #[x.val, .int .i64 0, .int .i64 0]) ∧ NodeAt (fun b => w.heap.size ≤ b) w' t x
  | .bad i c => e = .returned (.tuple #[zeroNd.val, .int .i64 (i : Nat), .int .i64 (c : Nat)])
  | .out => False
theorem no_newline {s : ByteArray} (h : ¬ 0 ≤ newlineAt s) : ∀ i, byt s i ≠ 10 := by
  intro i hi
  apply h
  unfold newlineAt
  rw [indexByte_mem]
  unfold byt at hi
  split at hi
  · rename_i hlt
    have h10 : s[i] = 10 := by rw [← UInt8.toNat_inj]; exact hi
    have h2 : i < s.data.toList.length := by simpa using hlt
    have h3 : s.data.toList[i] = s[i] := by simp; rfl
    rw [← h10, ← h3]
    exact List.getElem_mem h2
  · omega
set_option maxRecDepth 4000 in
theorem res9 {tmps : Array Value} {w : World} {R : Nat} {x : Nd} {v3 v4 : Value} (h2 : tmps[2]?.getD undef = .pointer (some ⟨R, 0, none⟩)) (h3 : tmps[3]?.getD undef = v3) (h4 : tmps[4]?.getD undef = v4) (hR : NB w R x) : (results Try.f9 tmps).run Try.prog w = .ok (.tuple #[x.val, v3, v4]) w := by
  obtain ⟨t0, t1, t2, t3, t4, t5, t6, t7⟩ := hR.cells
  unfold Nd.val
  simp [results, Try.results9, go_sem, h2, h3, h4, t0, t1, t2, t3, t4, t5, t6, t7]
theorem post_parse {Q : Ending → World → Prop} {a : Act} {w : World} {R : Nat} {x : Nd} {v3 v4 : Value} (hd : a.defers = []) (h2 : a.tmps[2]?.getD undef = .pointer (some ⟨R, 0, none⟩)) (h3 : a.tmps[3]?.getD undef = v3) (h4 : a.tmps[4]?.getD undef = v4) (hR : NB w R x) (hQ : Q (.returned (.tuple #[x.val, v3, v4])) w) : bodyPost Try.prog Try.f9 Q .ret a w :=
  bodyPost_ret (res9 h2 h3 h4 hR) hd hQ
set_option maxRecDepth 4000 in
set_option maxHeartbeats 4000000 in
theorem Parse_any (s : ByteArray) (w : World) (gm : GM w) : Calls Try.prog 9 #[.string s] w (ParsePost w s) := by
  have k1 : Below w.heap.size w (w.alloc (.cells #[.int .i64 0, .int .u64 0, .int .u64 0, .int .u64 0, .int .u64 0, .slice none 0 0, .int .i64 0, .int .i64 0] 28)) := (Below.refl _ _).alloc (Nat.le_refl _) _
  have HN1 : Hid (NB (w.alloc (.cells #[.int .i64 0, .int .u64 0, .int .u64 0, .int .u64 0, .int .u64 0, .slice none 0 0, .int .i64 0, .int .i64 0] 28)) w.heap.size zeroNd) := nb_zero w
  have HG1 : Hid (GM (w.alloc (.cells #[.int .i64 0, .int .u64 0, .int .u64 0, .int .u64 0, .int .u64 0, .slice none 0 0, .int .i64 0, .int .i64 0] 28))) := gm.later k1
  have HB1 : Hid (Below w.heap.size w (w.alloc (.cells #[.int .i64 0, .int .u64 0, .int .u64 0, .int .u64 0, .int .u64 0, .slice none 0 0, .int .i64 0, .int .i64 0] 28))) := k1
  obtain ⟨w1, hw1⟩ : ∃ w1, w1 = w.alloc (.cells #[.int .i64 0, .int .u64 0, .int .u64 0, .int .u64 0, .int .u64 0, .slice none 0 0, .int .i64 0, .int .i64 0] 28) := ⟨_, rfl⟩
  obtain ⟨R, hR⟩ : ∃ R, R = w.heap.size := ⟨_, rfl⟩
  rw [← hw1, ← hR] at HN1
  rw [← hw1] at HG1 HB1
  have HW1 : Hid (w.alloc (.cells #[.int .i64 0, .int .u64 0, .int .u64 0, .int .u64 0, .int .u64 0, .slice none 0 0, .int .i64 0, .int .i64 0] 28) = w1) := hw1.symm
  have HRR : Hid (w.heap.size = R) := hR.symm
  clear hw1 hR k1 gm
  obtain ⟨z0, z1, z2, z3, z4, z5, z6, z7⟩ := HN1.out.cells
  have y0 := HN1.out.frozen 0
  have y1 := HN1.out.frozen 1
  have y2 := HN1.out.frozen 2
  have y3 := HN1.out.frozen 3
  have y4 := HN1.out.frozen 4
  have y5 := HN1.out.frozen 5
  have y6 := HN1.out.frozen 6
  have y7 := HN1.out.frozen 7
  by_cases hlen : 1024 < s.size
  · have HX : Hid (parseOf s = .bad 1024 40) := by show _ = _; unfold parseOf; rw [if_pos hlen]
    have hlen' : (1024 : Int) < (s.size : Int) := by omega
    clear hlen
    go_enter Try.func9, Try.ntmps9
    go_upto_region 1 with fail
    rw [HW1.out, HRR.out]
    go_wp2
    refine post_parse (R := R) (x := zeroNd) rfl rfl rfl rfl ?_ ?_
    · show NB (put8z w1 R 0 none 0 0 0 0) R zeroNd
      rw [put8z_eq]
      exact HN1.out.put8 _
    · show ParsePost w s _ (put8z w1 R 0 none 0 0 0 0)
      rw [put8z_eq]
      refine ⟨below_put8 HB1.out (Nat.le_of_eq HRR.out) _, ?_⟩
      rw [HX.out]
      rfl
  · have hlen' : ¬ (1024 : Int) < (s.size : Int) := by omega
    have HIX : Hid (∀ v, Calls Try.prog 23 #[.string s, .int .u8 10] v fun e w' => e = .returned (.int .i64 (newlineAt s)) ∧ w' = v) := fun v => (Try.strings_IndexByte s 10 v).mono (fun _ _ h => ⟨by rw [h.1]; rfl, h.2⟩)
    have HS0 : Hid (s.size ≤ 1024) := by show _ ≤ _; omega
    have HPO : Hid (parseOf s = if 0 ≤ newlineAt s then .bad (newlineAt s).toNat 41 else wholeOf s) := by show _ = _; unfold parseOf; rw [if_neg hlen]
    have HNN : Hid (¬ 0 ≤ newlineAt s → ∀ i, byt s i ≠ 10) := no_newline
    obtain ⟨z, hz⟩ : ∃ z, z = newlineAt s := ⟨_, rfl⟩
    rw [← hz] at HIX HPO HNN
    clear hlen hz
    go_enter Try.func9, Try.ntmps9
    go_upto_region 1 with fail
    rw [HW1.out, HRR.out]
    go_wp2_with fail
    refine (HIX.out _).mono ?_
    rintro e w2 ⟨rfl, hw2⟩
    have hw2 := hw2.symm
    subst hw2
    by_cases h0 : 0 ≤ z
    · have HX : Hid (parseOf s = .bad z.toNat 41) := by show _ = _; rw [HPO.out, if_pos h0]
      go_wp2
      refine post_parse (R := R) (x := zeroNd) rfl rfl rfl rfl ?_ ?_
      · show NB (put8z _ R 0 none 0 0 0 0) R zeroNd
        rw [put8z_eq]
        exact HN1.out.put8 _
      · show ParsePost w s _ (put8z _ R 0 none 0 0 0 0)
        rw [put8z_eq]
        refine ⟨below_put8 HB1.out (Nat.le_of_eq HRR.out) _, ?_⟩
        rw [HX.out]
        show Ending.returned (.tuple #[zeroNd.val, .int .i64 z, .int .i64 41]) = _
        rw [show z = ((z.toNat : Nat) : Int) by omega]
        rfl
    · have HX : Hid (parseOf s = wholeOf s) := by show _ = _; rw [HPO.out, if_neg h0]
      have HNL : Hid (∀ i, byt s i ≠ 10) := HNN.out (by omega)
      go_wp2_with fail
      refine (read_any s _ HS0.out HNL.out HG1.out).mono ?_
      intro e w3 h3
      unfold ReadPost at h3
      obtain ⟨k3, h3⟩ := h3
      have HB3 : Hid (Below w.heap.size w w3) := below_step HB1.out k3
      have HN3 : Hid (NB w3 R zeroNd) := HN1.out.later k3
      have HZ : Hid (w.heap.size + 1 ≤ w1.heap.size) := by have := HN1.out.lt; have := HRR.out; show _ ≤ _; omega
      clear k3 z0 z1 z2 z3 z4 z5 z6 z7 y0 y1 y2 y3 y4 y5 y6 y7
      obtain ⟨z0, z1, z2, z3, z4, z5, z6, z7⟩ := HN3.out.cells
      have y0 := HN3.out.frozen 0
      have y1 := HN3.out.frozen 1
      have y2 := HN3.out.frozen 2
      have y3 := HN3.out.frozen 3
      have y4 := HN3.out.frozen 4
      have y5 := HN3.out.frozen 5
      have y6 := HN3.out.frozen 6
      have y7 := HN3.out.frozen 7
      cases hc : wholeOf s with
      | out => rw [hc] at h3; exact h3.elim
      | bad a c =>
        rw [hc] at h3 HX
        subst h3
        clear hc
        unfold Nd.val
        go_wp2
        refine post_parse (R := R) (x := zeroNd) rfl rfl rfl rfl (HN3.out.put8 zeroNd) ?_
        refine ⟨below_put8 HB3.out (Nat.le_of_eq HRR.out) zeroNd, ?_⟩
        rw [HX.out]
        rfl
      | ok t j =>
        rw [hc] at h3 HX
        obtain ⟨x, rfl, hx⟩ := h3
        have HXN : Hid (NodeAt (fun b => w.heap.size + 1 ≤ b) w3 t x) := hx.keep (fun b hb _ => Nat.le_trans HZ.out hb) (fun _ _ _ => rfl)
        clear hc hx
        unfold Nd.val
        go_wp2
        refine post_parse (R := R) (x := x) rfl rfl rfl rfl (HN3.out.put8 x) ?_
        refine ⟨below_put8 HB3.out (Nat.le_of_eq HRR.out) x, ?_⟩
        rw [HX.out]
        have hRR := HRR.out
        exact ⟨x, rfl, HXN.out.keep (fun b hb _ => by omega) (fun b hb _ => heap_put8 w3 R x b (by omega))⟩
end Go.Proofs.Ytlcnmfgmgiijpaa
