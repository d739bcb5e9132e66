
import Derived.Test.YtmjnobdlgbojoaaGreatDoorG36
import Derived.Test.YtmjnobdlgbojoaaGreatDoorG11
import Derived.Test.YtmjnobdlgbojoaaGreatDoorG30
import Derived.Test.YtmjnobdlgbojoaaGreatDoorG17
import Derived.Test.YtmjnobdlgbojoaaGreatDoorG19
namespace Go.Proofs.YtmjnobdlgbojoaaGreatDoor
open Go.RowKit
attribute [local go_sem ↓] Go.wp_at_zero Go.wp_at_succ
theorem ib_new (w : World) (t : TypeId) (v : Int) : IB (w.alloc (.cells #[.int .i64 v] t)) w.heap.size t v := heap_alloc_new w _
theorem rb_new (w : World) (s : ByteArray) : RB (w.alloc (.cells #[.string s, .int .i64 0, .int .i64 0] 91)) w.heap.size s 0 0 := heap_alloc_new w _
def ReadPost (w : World) (s : ByteArray) : Ending → World → Prop := fun e w' => Below w.heap.size w w' ∧ match wholeOf s with
  | .ok t _ => ∃ x : Nd, e = .returned (.tuple #[x.val, .int .i64 0, .int .i64 0]) ∧ NodeAt (fun b => w.heap.size ≤ b) w' t x
  | .bad i c => e = .returned (.tuple #[zeroNd.val, .int .i64 (i : Nat), .int .i64 (c : Nat)])
  | .out => False
theorem below_grown {w u u' : World} {B : Nat} (h : Below w.heap.size w u) (hg : u.grownBy u' (some B)) (hB : w.heap.size ≤ B) : Below w.heap.size w u' :=
  ⟨hg.os.trans h.os, hg.tape.trans h.tape, hg.output.trans h.output, Nat.le_trans h.size hg.size, fun b hb => (hg.block b (Nat.lt_of_lt_of_le hb h.size) (by simp; omega)).trans (h.block b hb)⟩
set_option maxRecDepth 4000 in
theorem res24 {tmps : Array Value} {w : World} {TB P E : Nat} {x : Nd} {a b : Int} (h2 : tmps[2]?.getD undef = .pointer (some ⟨TB, 0, none⟩)) (h3 : tmps[3]?.getD undef = .pointer (some ⟨P, 0, none⟩)) (h4 : tmps[4]?.getD undef = .pointer (some ⟨E, 0, none⟩)) (hT : NB w TB x) (hP : IB w P 3 a) (hE : IB w E 31 b) : (results Tryz.f18 tmps).run Tryz.prog w = .ok (.tuple #[x.val, .int .i64 a, .int .i64 b]) w := by
  obtain ⟨t0, t1, t2, t3, t4, t5, t6, t7⟩ := hT.cells
  have p0 := hP.cell
  have e0 := hE.cell
  unfold Nd.val
  simp [results, Tryz.results18, go_sem, h2, h3, h4, t0, t1, t2, t3, t4, t5, t6, t7, p0, e0]
set_option maxRecDepth 4000 in
set_option maxHeartbeats 4000000 in
theorem read_any (s : ByteArray) (w : World) (hs : s.size ≤ 1024) (hnl : ∀ i, byt s i ≠ 10) (gm : GM w) : Calls Tryz.prog 18 #[.string s] w (ReadPost w s) := by
  obtain ⟨w1, hw1⟩ : ∃ w1, w1 = w.alloc (.cells #[.int .i64 0, .int .u64 0, .int .u64 0, .int .u64 0, .int .u64 0, .slice none 0 0, .int .i64 0, .int .i64 0] 30) := ⟨_, rfl⟩
  obtain ⟨w2, hw2⟩ : ∃ w2, w2 = w1.alloc (.cells #[.int .i64 0] 3) := ⟨_, rfl⟩
  obtain ⟨w3, hw3⟩ : ∃ w3, w3 = w2.alloc (.cells #[.int .i64 0] 31) := ⟨_, rfl⟩
  obtain ⟨w4, hw4⟩ : ∃ w4, w4 = w3.alloc (.cells #[.string s, .int .i64 0, .int .i64 0] 91) := ⟨_, rfl⟩
  have z1 : w1.heap.size = w.heap.size + 1 := by rw [hw1]; simp
  have z2 : w2.heap.size = w.heap.size + 2 := by rw [hw2]; simp [z1]
  have z3 : w3.heap.size = w.heap.size + 3 := by rw [hw3]; simp [z2]
  have k1 : Below w.heap.size w w1 := by rw [hw1]; exact (Below.refl _ _).alloc (Nat.le_refl _) _
  have k2 : Below w1.heap.size w1 w2 := by rw [hw2]; exact (Below.refl _ _).alloc (Nat.le_refl _) _
  have k3 : Below w2.heap.size w2 w3 := by rw [hw3]; exact (Below.refl _ _).alloc (Nat.le_refl _) _
  have k4 : Below w3.heap.size w3 w4 := by rw [hw4]; exact (Below.refl _ _).alloc (Nat.le_refl _) _
  have HT : Hid (NB w4 w.heap.size zeroNd) := by
    have h : NB w1 w.heap.size zeroNd := by rw [hw1]; exact nb_zero w
    exact ((h.later k2).later k3).later k4
  have HP : Hid (IB w4 (w.heap.size + 1) 3 0) := by
    have h : IB w2 w1.heap.size 3 0 := by rw [hw2]; exact ib_new w1 3 0
    rw [z1] at h
    exact (h.later k3).later k4
  have HE : Hid (IB w4 (w.heap.size + 2) 31 0) := by
    have h : IB w3 w2.heap.size 31 0 := by rw [hw3]; exact ib_new w2 31 0
    rw [z2] at h
    exact h.later k4
  have HR : Hid (RB w4 (w.heap.size + 3) s 0 0) := by
    have h : RB w4 w3.heap.size s 0 0 := by rw [hw4]; exact rb_new w3 s
    rw [z3] at h
    exact h
  have HB : Hid (Below w.heap.size w w4) := below_step (below_step (below_step k1 k2) k3) k4
  have HG : Hid (GM w4) := (((gm.later k1).later k2).later k3).later k4
  have HNL : Hid (∀ i, byt s i ≠ 10) := hnl
  have HW1 : Hid (w.alloc (.cells #[.int .i64 0, .int .u64 0, .int .u64 0, .int .u64 0, .int .u64 0, .slice none 0 0, .int .i64 0, .int .i64 0] 30) = w1) := hw1.symm
  have HW2 : Hid (w1.alloc (.cells #[.int .i64 0] 3) = w2) := hw2.symm
  have HW3 : Hid (w2.alloc (.cells #[.int .i64 0] 31) = w3) := hw3.symm
  have HW4 : Hid (w3.alloc (.cells #[.string s, .int .i64 0, .int .i64 0] 91) = w4) := hw4.symm
  clear hw1 hw2 hw3 hw4 z1 z2 z3 k1 k2 k3 k4 hnl gm
  have hmf : ∀ (fn : Fn) (first cap : Array Value) (w : World), (Instr.makeFunc fn first cap).run Tryz.prog w = .ok (.func fn first cap) w := fun _ _ _ _ => rfl
  go_enter_defers Tryz.func18, Tryz.ntmps18
  go_upto_region 3 with fail
  rw [HW1.out, HW2.out, HW3.out, HW4.out]
  clear HW1 HW2 HW3 HW4 hmf
  have HN : Hid (w.heap.size = w.heap.size) := by show _ = _; rfl
  obtain ⟨B, hB⟩ : ∃ B, w.heap.size + 1 + 1 + 1 = B := ⟨_, rfl⟩
  obtain ⟨E, hE⟩ : ∃ E, w.heap.size + 1 + 1 = E := ⟨_, rfl⟩
  obtain ⟨P, hP⟩ : ∃ P, w.heap.size + 1 = P := ⟨_, rfl⟩
  obtain ⟨TB, hTB⟩ : ∃ TB, w.heap.size = TB := ⟨_, rfl⟩
  rw [hB, hE, hP]
  have HT' : Hid (NB w4 TB zeroNd) := by have := HT.out; rw [hTB] at this; exact this
  have HP' : Hid (IB w4 P 3 0) := by have := HP.out; rw [hP] at this; exact this
  have HE' : Hid (IB w4 E 31 0) := by have := HE.out; rw [show w.heap.size + 2 = E by omega] at this; exact this
  have HR' : Hid (RB w4 B s 0 0) := by have := HR.out; rw [show w.heap.size + 3 = B by omega] at this; exact this
  have HTP : Hid (TB ≠ P) := by show _ ≠ _; omega
  have HTE : Hid (TB ≠ E) := by show _ ≠ _; omega
  have HPE : Hid (P ≠ E) := by show _ ≠ _; omega
  have HTB : Hid (TB ≠ B) := by show _ ≠ _; omega
  have HPB : Hid (P ≠ B) := by show _ ≠ _; omega
  have HEB : Hid (E ≠ B) := by show _ ≠ _; omega
  have HLE : Hid (w.heap.size ≤ TB ∧ w.heap.size ≤ P ∧ w.heap.size ≤ E ∧ w.heap.size ≤ B ∧ 2 ≤ B ∧ E < B) := ⟨by omega, by omega, by omega, by omega, by omega, by omega⟩
  have HTW : Hid (w.heap.size = TB) := hTB
  rw [hTB]
  clear hB hE hP hTB HT HP HE HR HN
  go_wp2_with fail
  refine (whole_walk B s w4 ⟨HR'.out, by omega, hs, HG.out, HLE.out.2.2.2.2.1, by omega⟩ HNL.out).mono ?_
  intro r w5 h5
  cases hc : wholeOf s with
  | out => rw [hc] at h5; exact h5.elim
  | bad a c =>
    rw [hc] at h5
    obtain ⟨rfl, hg5⟩ := h5
    have hbw5 : Below w.heap.size w w5 := below_grown HB.out hg5 HLE.out.2.2.2.1
    have HB5 : Hid (Below w.heap.size w w5) := hbw5
    have HT5 : Hid (NB w5 TB zeroNd) := HT'.out.grown hg5 (by have := HTB.out; simp; exact this)
    have HP5 : Hid (IB w5 P 3 0) := HP'.out.grown hg5 (by have := HPB.out; simp; exact this)
    have HE5 : Hid (IB w5 E 31 0) := HE'.out.grown hg5 (by have := HEB.out; simp; exact this)
    have HC : Hid (wholeOf s = .bad a c) := hc
    clear hc hg5 hbw5
    go_wp2
    refine leaves_cons (f := 39) (args := #[.pointer (some ⟨TB, 0, none⟩), .pointer (some ⟨P, 0, none⟩), .pointer (some ⟨E, 0, none⟩)]) (by simp) (by simp [go_sem]) ?_
    refine (catch_panicking TB P E a c zeroNd 0 0 w5 HT5.out HP5.out HE5.out HTP.out HTE.out HPE.out w.heap.size HLE.out.1 HLE.out.2.1 HLE.out.2.2.1 HB5.out.size).mono ?_
    rintro e u' w6 ⟨rfl, rfl, q1, q2, q3, q4⟩
    have hbw : Below w.heap.size w w6 := ⟨q4.os.trans HB5.out.os, q4.tape.trans HB5.out.tape, q4.output.trans HB5.out.output, Nat.le_trans HB5.out.size q4.size, fun b hb => (q4.block b hb).trans (HB5.out.block b hb)⟩
    refine ⟨_, res24 rfl rfl rfl q1 q2 q3, hbw, ?_⟩
    rw [HC.out]
  | ok t j =>
    rw [hc] at h5
    obtain ⟨hj, v, rfl, ⟨x, rfl, hx⟩, hr5, hg5⟩ := h5
    have hbw5 : Below w.heap.size w w5 := below_grown HB.out hg5 HLE.out.2.2.2.1
    have HB5 : Hid (Below w.heap.size w w5) := hbw5
    have HT5 : Hid (NB w5 TB zeroNd) := HT'.out.grown hg5 (by have := HTB.out; simp; exact this)
    have HP5 : Hid (IB w5 P 3 0) := HP'.out.grown hg5 (by have := HPB.out; simp; exact this)
    have HE5 : Hid (IB w5 E 31 0) := HE'.out.grown hg5 (by have := HEB.out; simp; exact this)
    have HX5 : Hid (NodeAt (fun b => w4.heap.size ≤ b) w5 t x) := hx
    have HC : Hid (wholeOf s = .ok t j) := hc
    clear hc hg5 hbw5 hx hr5
    obtain ⟨z0, z1, z2, z3, z4, z5, z6, z7⟩ := HT5.out.cells
    have y0 := HT5.out.frozen 0
    have y1 := HT5.out.frozen 1
    have y2 := HT5.out.frozen 2
    have y3 := HT5.out.frozen 3
    have y4 := HT5.out.frozen 4
    have y5 := HT5.out.frozen 5
    have y6 := HT5.out.frozen 6
    have y7 := HT5.out.frozen 7
    have p0 := HP5.out.cell
    have p1 := HP5.out.frozen
    have e0 := HE5.out.cell
    have e1 := HE5.out.frozen
    have d1 := HTP.out
    have d2 := HTE.out
    have d3 := HPE.out
    unfold Nd.val
    go_wp2
    refine leaves_cons (f := 39) (args := #[.pointer (some ⟨TB, 0, none⟩), .pointer (some ⟨P, 0, none⟩), .pointer (some ⟨E, 0, none⟩)]) (by simp) (by simp [go_sem]) ?_
    refine (catch_idle ⟨TB, 0, none⟩ ⟨P, 0, none⟩ ⟨E, 0, none⟩ _).mono ?_
    rintro e u' w'' ⟨rfl, rfl, rfl⟩
    have hT6 : NB (((put8 w5 TB x).setCell ⟨P, 0, none⟩ (.int .i64 0)).setCell ⟨E, 0, none⟩ (.int .i64 0)) TB x := ((HT5.out.put8 x).set d1 _ _).set d2 _ _
    have hP6 : IB (((put8 w5 TB x).setCell ⟨P, 0, none⟩ (.int .i64 0)).setCell ⟨E, 0, none⟩ (.int .i64 0)) P 3 0 := ((HP5.out.put8 d1.symm x).put 0).other d3 _ _
    have hE6 : IB (((put8 w5 TB x).setCell ⟨P, 0, none⟩ (.int .i64 0)).setCell ⟨E, 0, none⟩ (.int .i64 0)) E 31 0 := ((HE5.out.put8 d2.symm x).other d3.symm _ _).put 0
    have hB6 : Below w.heap.size w (((put8 w5 TB x).setCell ⟨P, 0, none⟩ (.int .i64 0)).setCell ⟨E, 0, none⟩ (.int .i64 0)) := ((below_put8 HB5.out HLE.out.1 x).setCell (p := ⟨P, 0, none⟩) HLE.out.2.1 _).setCell (p := ⟨E, 0, none⟩) HLE.out.2.2.1 _
    refine ⟨_, res24 rfl rfl rfl hT6 hP6 hE6, hB6, ?_⟩
    rw [HC.out]
    have hEB := HLE.out.2.2.2.2.2
    have hz := HR'.out.lt
    have hb := HB.out.size
    have l1 := HP'.out.lt
    have l2 := HT'.out.lt
    refine ⟨x, rfl, HX5.out.keep (fun b hb _ => by omega) (fun b hb _ => ?_)⟩
    rw [Below.heap_setCell _ ⟨E, 0, none⟩ _ b (by show b ≠ E; omega), Below.heap_setCell _ ⟨P, 0, none⟩ _ b (by show b ≠ P; omega)]
    exact heap_put8 w5 TB x b (by omega)
end Go.Proofs.YtmjnobdlgbojoaaGreatDoor


namespace Go.Proofs.YtmjnobdlgbojoaaGreatDoor
open Go.RowKit
attribute [local go_sem ↓] Go.wp_at_zero Go.wp_at_succ
def newlineAt (s : ByteArray) : Int := Lib.indexByte s.data.toList 10
def parseOf (s : ByteArray) : Rs Tr := if 1024 < s.size then .bad 1024 40 else if 0 ≤ newlineAt s then .bad (newlineAt s).toNat 41 else wholeOf s
def ParsePost (w : World) (s : ByteArray) : Ending → World → Prop := fun e w' => Below w.heap.size w w' ∧ match parseOf s with
  | .ok t _ => ∃ x : Nd, e = .returned (.tuple #[x.val, .int .i64 0, .int .i64 0]) ∧ NodeAt (fun b => w.heap.size ≤ b) w' t x
  | .bad i c => e = .returned (.tuple #[zeroNd.val, .int .i64 (i : Nat), .int .i64 (c : Nat)])
  | .out => False
theorem no_newline {s : ByteArray} (h : ¬ 0 ≤ newlineAt s) : ∀ i, byt s i ≠ 10 := by
  intro i hi
  apply h
  unfold newlineAt
  rw [indexByte_mem]
  unfold byt at hi
  split at hi
  · rename_i hlt
    have h10 : s[i] = 10 := by rw [← UInt8.toNat_inj]; exact hi
    have h2 : i < s.data.toList.length := by simpa using hlt
    have h3 : s.data.toList[i] = s[i] := by simp; rfl
    rw [← h10, ← h3]
    exact List.getElem_mem h2
  · omega
set_option maxRecDepth 4000 in
theorem res9 {tmps : Array Value} {w : World} {R : Nat} {x : Nd} {v3 v4 : Value} (h2 : tmps[2]?.getD undef = .pointer (some ⟨R, 0, none⟩)) (h3 : tmps[3]?.getD undef = v3) (h4 : tmps[4]?.getD undef = v4) (hR : NB w R x) : (results Tryz.f5 tmps).run Tryz.prog w = .ok (.tuple #[x.val, v3, v4]) w := by
  obtain ⟨t0, t1, t2, t3, t4, t5, t6, t7⟩ := hR.cells
  unfold Nd.val
  simp [results, Tryz.results5, go_sem, h2, h3, h4, t0, t1, t2, t3, t4, t5, t6, t7]
theorem post_parse {Q : Ending → World → Prop} {a : Act} {w : World} {R : Nat} {x : Nd} {v3 v4 : Value} (hd : a.defers = []) (h2 : a.tmps[2]?.getD undef = .pointer (some ⟨R, 0, none⟩)) (h3 : a.tmps[3]?.getD undef = v3) (h4 : a.tmps[4]?.getD undef = v4) (hR : NB w R x) (hQ : Q (.returned (.tuple #[x.val, v3, v4])) w) : bodyPost Tryz.prog Tryz.f5 Q .ret a w :=
  bodyPost_ret (res9 h2 h3 h4 hR) hd hQ
set_option maxRecDepth 4000 in
set_option maxHeartbeats 4000000 in
theorem Parse_any (s : ByteArray) (w : World) (gm : GM w) : Calls Tryz.prog 5 #[.string s] w (ParsePost w s) := by
  have k1 : Below w.heap.size w (w.alloc (.cells #[.int .i64 0, .int .u64 0, .int .u64 0, .int .u64 0, .int .u64 0, .slice none 0 0, .int .i64 0, .int .i64 0] 30)) := (Below.refl _ _).alloc (Nat.le_refl _) _
  have HN1 : Hid (NB (w.alloc (.cells #[.int .i64 0, .int .u64 0, .int .u64 0, .int .u64 0, .int .u64 0, .slice none 0 0, .int .i64 0, .int .i64 0] 30)) w.heap.size zeroNd) := nb_zero w
  have HG1 : Hid (GM (w.alloc (.cells #[.int .i64 0, .int .u64 0, .int .u64 0, .int .u64 0, .int .u64 0, .slice none 0 0, .int .i64 0, .int .i64 0] 30))) := gm.later k1
  have HB1 : Hid (Below w.heap.size w (w.alloc (.cells #[.int .i64 0, .int .u64 0, .int .u64 0, .int .u64 0, .int .u64 0, .slice none 0 0, .int .i64 0, .int .i64 0] 30))) := k1
  obtain ⟨w1, hw1⟩ : ∃ w1, w1 = w.alloc (.cells #[.int .i64 0, .int .u64 0, .int .u64 0, .int .u64 0, .int .u64 0, .slice none 0 0, .int .i64 0, .int .i64 0] 30) := ⟨_, rfl⟩
  obtain ⟨R, hR⟩ : ∃ R, R = w.heap.size := ⟨_, rfl⟩
  rw [← hw1, ← hR] at HN1
  rw [← hw1] at HG1 HB1
  have HW1 : Hid (w.alloc (.cells #[.int .i64 0, .int .u64 0, .int .u64 0, .int .u64 0, .int .u64 0, .slice none 0 0, .int .i64 0, .int .i64 0] 30) = w1) := hw1.symm
  have HRR : Hid (w.heap.size = R) := hR.symm
  clear hw1 hR k1 gm
  obtain ⟨z0, z1, z2, z3, z4, z5, z6, z7⟩ := HN1.out.cells
  have y0 := HN1.out.frozen 0
  have y1 := HN1.out.frozen 1
  have y2 := HN1.out.frozen 2
  have y3 := HN1.out.frozen 3
  have y4 := HN1.out.frozen 4
  have y5 := HN1.out.frozen 5
  have y6 := HN1.out.frozen 6
  have y7 := HN1.out.frozen 7
  by_cases hlen : 1024 < s.size
  · have HX : Hid (parseOf s = .bad 1024 40) := by show _ = _; unfold parseOf; rw [if_pos hlen]
    have hlen' : (1024 : Int) < (s.size : Int) := by omega
    clear hlen
    go_enter Tryz.func5, Tryz.ntmps5
    go_upto_region 1 with fail
    rw [HW1.out, HRR.out]
    go_wp2
    refine post_parse (R := R) (x := zeroNd) rfl rfl rfl rfl ?_ ?_
    · show NB (put8z w1 R 0 none 0 0 0 0) R zeroNd
      rw [put8z_eq]
      exact HN1.out.put8 _
    · show ParsePost w s _ (put8z w1 R 0 none 0 0 0 0)
      rw [put8z_eq]
      refine ⟨below_put8 HB1.out (Nat.le_of_eq HRR.out) _, ?_⟩
      rw [HX.out]
      rfl
  · have hlen' : ¬ (1024 : Int) < (s.size : Int) := by omega
    have HIX : Hid (∀ v, Calls Tryz.prog 17 #[.string s, .int .u8 10] v fun e w' => e = .returned (.int .i64 (newlineAt s)) ∧ w' = v) := fun v => (Tryz.strings_IndexByte s 10 v).mono (fun _ _ h => ⟨by rw [h.1]; rfl, h.2⟩)
    have HS0 : Hid (s.size ≤ 1024) := by show _ ≤ _; omega
    have HPO : Hid (parseOf s = if 0 ≤ newlineAt s then .bad (newlineAt s).toNat 41 else wholeOf s) := by show _ = _; unfold parseOf; rw [if_neg hlen]
    have HNN : Hid (¬ 0 ≤ newlineAt s → ∀ i, byt s i ≠ 10) := no_newline
    obtain ⟨z, hz⟩ : ∃ z, z = newlineAt s := ⟨_, rfl⟩
    rw [← hz] at HIX HPO HNN
    clear hlen hz
    go_enter Tryz.func5, Tryz.ntmps5
    go_upto_region 1 with fail
    rw [HW1.out, HRR.out]
    go_wp2_with fail
    refine (HIX.out _).mono ?_
    rintro e w2 ⟨rfl, hw2⟩
    have hw2 := hw2.symm
    subst hw2
    by_cases h0 : 0 ≤ z
    · have HX : Hid (parseOf s = .bad z.toNat 41) := by show _ = _; rw [HPO.out, if_pos h0]
      go_wp2
      refine post_parse (R := R) (x := zeroNd) rfl rfl rfl rfl ?_ ?_
      · show NB (put8z _ R 0 none 0 0 0 0) R zeroNd
        rw [put8z_eq]
        exact HN1.out.put8 _
      · show ParsePost w s _ (put8z _ R 0 none 0 0 0 0)
        rw [put8z_eq]
        refine ⟨below_put8 HB1.out (Nat.le_of_eq HRR.out) _, ?_⟩
        rw [HX.out]
        show Ending.returned (.tuple #[zeroNd.val, .int .i64 z, .int .i64 41]) = _
        rw [show z = ((z.toNat : Nat) : Int) by omega]
        rfl
    · have HX : Hid (parseOf s = wholeOf s) := by show _ = _; rw [HPO.out, if_neg h0]
      have HNL : Hid (∀ i, byt s i ≠ 10) := HNN.out (by omega)
      go_wp2_with fail
      refine (read_any s _ HS0.out HNL.out HG1.out).mono ?_
      intro e w3 h3
      unfold ReadPost at h3
      obtain ⟨k3, h3⟩ := h3
      have HB3 : Hid (Below w.heap.size w w3) := below_step HB1.out k3
      have HN3 : Hid (NB w3 R zeroNd) := HN1.out.later k3
      have HZ : Hid (w.heap.size + 1 ≤ w1.heap.size) := by have := HN1.out.lt; have := HRR.out; show _ ≤ _; omega
      clear k3 z0 z1 z2 z3 z4 z5 z6 z7 y0 y1 y2 y3 y4 y5 y6 y7
      obtain ⟨z0, z1, z2, z3, z4, z5, z6, z7⟩ := HN3.out.cells
      have y0 := HN3.out.frozen 0
      have y1 := HN3.out.frozen 1
      have y2 := HN3.out.frozen 2
      have y3 := HN3.out.frozen 3
      have y4 := HN3.out.frozen 4
      have y5 := HN3.out.frozen 5
      have y6 := HN3.out.frozen 6
      have y7 := HN3.out.frozen 7
      cases hc : wholeOf s with
      | out => rw [hc] at h3; exact h3.elim
      | bad a c =>
        rw [hc] at h3 HX
        subst h3
        clear hc
        unfold Nd.val
        go_wp2
        refine post_parse (R := R) (x := zeroNd) rfl rfl rfl rfl (HN3.out.put8 zeroNd) ?_
        refine ⟨below_put8 HB3.out (Nat.le_of_eq HRR.out) zeroNd, ?_⟩
        rw [HX.out]
        rfl
      | ok t j =>
        rw [hc] at h3 HX
        obtain ⟨x, rfl, hx⟩ := h3
        have HXN : Hid (NodeAt (fun b => w.heap.size + 1 ≤ b) w3 t x) := hx.keep (fun b hb _ => Nat.le_trans HZ.out hb) (fun _ _ _ => rfl)
        clear hc hx
        unfold Nd.val
        go_wp2
        refine post_parse (R := R) (x := x) rfl rfl rfl rfl (HN3.out.put8 x) ?_
        refine ⟨below_put8 HB3.out (Nat.le_of_eq HRR.out) x, ?_⟩
        rw [HX.out]
        have hRR := HRR.out
        exact ⟨x, rfl, HXN.out.keep (fun b hb _ => by omega) (fun b hb _ => heap_put8 w3 R x b (by omega))⟩
end Go.Proofs.YtmjnobdlgbojoaaGreatDoor


namespace Go.Proofs.YtmjnobdlgbojoaaGreatDoor
end Go.Proofs.YtmjnobdlgbojoaaGreatDoor


namespace Go.Proofs.YtmjnobdlgbojoaaGreatDoor
section
variable {s s' : ByteArray} {m : Nat}
end
end Go.Proofs.YtmjnobdlgbojoaaGreatDoor


namespace Go.Proofs.YtmjnobdlgbojoaaGreatDoor
section
variable {s s' : ByteArray} {m : Nat}
end
end Go.Proofs.YtmjnobdlgbojoaaGreatDoor


namespace Go.Proofs.YtmjnobdlgbojoaaGreatDoor
section
variable {s s' : ByteArray} {m : Nat}
end
end Go.Proofs.YtmjnobdlgbojoaaGreatDoor


namespace Go.Proofs.YtmjnobdlgbojoaaGreatDoor
variable {s s' : ByteArray} {o : Nat}
end Go.Proofs.YtmjnobdlgbojoaaGreatDoor


namespace Go.Proofs.YtmjnobdlgbojoaaGreatDoor
theorem count_at {s : ByteArray} {o i a e : Nat} (h : count s o i = .bad a e) : a = o := by
  unfold count at h
  split at h
  · cases h; rfl
  · cases h
theorem countsEnd_at {s : ByteArray} {o j a e : Nat} {l x : Int} (h : countsEnd s o l x j = .bad a e) : a = o := by
  unfold countsEnd at h
  split at h
  · cases h
  · cases h; rfl
theorem counts_at {s : ByteArray} {i a e : Nat} (h : counts s i = .bad a e) : a = i := by
  unfold counts at h
  split at h
  · split at h
    · split at h
      · exact countsEnd_at h
      · split at h
        · exact countsEnd_at h
        · rename_i h2; cases h; exact count_at h2
        · cases h
    · exact countsEnd_at h
  · rename_i h2; cases h; exact count_at h2
  · cases h
theorem repeated_at {s : ByteArray} {t : Tr} {i a e : Nat} (h : repeated s t i = .bad a e) : a = i := by
  unfold repeated at h
  split at h
  · cases h
  · split at h
    · cases h
    · split at h
      · cases h
      · split at h
        · split at h
          · cases h
          · rename_i h2; cases h; exact counts_at h2
          · cases h
        · cases h
theorem repeated_le {s : ByteArray} {t u : Tr} {i j : Nat} (hi : i ≤ s.size) (h : repeated s t i = .ok u j) : j ≤ s.size := by
  unfold repeated at h
  split at h
  · rename_i g; cases h; exact sees_lt g
  · split at h
    · rename_i g; cases h; exact sees_lt g
    · split at h
      · rename_i g; cases h; exact sees_lt g
      · split at h
        · split at h
          · rename_i h2; cases h; exact counts_lt h2
          · cases h
          · cases h
        · cases h; exact hi
theorem item_at {s : ByteArray} {o i a e : Nat} (h : item s o i = .bad a e) : a = o ∨ a = i := by
  unfold item at h
  split at h
  · cases h; exact .inl rfl
  · split at h
    · unfold class_ at h
      split at h
      · split at h
        · cases h
        · cases h; exact .inr rfl
      · cases h; exact .inl rfl
    · split at h
      · cases h; exact .inr rfl
      · split at h
        · unfold span_ at h
          split at h
          · cases h; exact .inr rfl
          · cases h
        · cases h
theorem setLoop_at {s : ByteArray} {o : Nat} (ho : o ≤ s.size) : ∀ {f : Nat} {x : Oct.S} {i : Nat}, i ≤ s.size → (∀ y j, setLoop s o f x i = .ok y j → j ≤ s.size) ∧ (∀ a e, setLoop s o f x i = .bad a e → a ≤ s.size) := by
  intro f
  induction f with
  | zero => intro x i _; exact ⟨fun y j h => by simp [setLoop] at h, fun a e h => by simp [setLoop] at h⟩
  | succ f ih =>
    intro x i hi
    rw [setLoop]
    split
    · rename_i g
      exact ⟨fun y j h => (by cases h; exact sees_lt g), fun a e h => by cases h⟩
    · cases hc : item s o i with
      | ok b k => exact ih (item_le hi hc).1
      | bad a e => exact ⟨fun y j h => (by cases h), fun a e h => by cases h; rcases item_at hc with rfl | rfl <;> omega⟩
      | out => exact ⟨fun y j h => (by cases h), fun a e h => by cases h⟩
theorem setOf_at {s : ByteArray} {f i : Nat} (hi : i < s.size) : (∀ y j, setOf s f i = .ok y j → j ≤ s.size) ∧ (∀ a e, setOf s f i = .bad a e → a ≤ s.size) := by
  have hb : (if sees s (i + 1) 94 = true then i + 2 else i + 1) ≤ s.size := by
    split
    · rename_i g; have := sees_lt g; omega
    · omega
  unfold setOf
  cases hc : item s i (if sees s (i + 1) 94 = true then i + 2 else i + 1) with
  | bad a e =>
    refine ⟨fun y j h => ?_, fun a e h => ?_⟩
    · cases h
    · cases h
      rcases item_at hc with rfl | rfl <;> omega
  | out => exact ⟨fun y j h => (by cases h), fun a e h => by cases h⟩
  | ok b k =>
    have h1 := setLoop_at (s := s) (o := i) (by omega) (f := f) (x := b) (item_le hb hc).1
    refine ⟨fun y j h => ?_, fun a e h => ?_⟩
    · simp only at h
      split at h
      · rename_i h2; cases h; exact h1.1 _ _ h2
      · cases h
      · cases h
    · simp only at h
      split at h
      · cases h
      · rename_i h2; cases h; exact h1.2 _ _ h2
      · cases h
theorem read_at (s : ByteArray) (n : Nat) : (∀ d i, i ≤ s.size → (∀ t j, pat s n d i = .ok t j → j ≤ s.size) ∧ (∀ a e, pat s n d i = .bad a e → a ≤ s.size)) ∧ (∀ d acc i, i ≤ s.size → (∀ t j, patLoop s n d acc i = .ok t j → j ≤ s.size) ∧ (∀ a e, patLoop s n d acc i = .bad a e → a ≤ s.size)) ∧ (∀ d i, i ≤ s.size → (∀ t j, alt s n d i = .ok t j → j ≤ s.size) ∧ (∀ a e, alt s n d i = .bad a e → a ≤ s.size)) ∧ (∀ d acc i, i ≤ s.size → (∀ t j, altLoop s n d acc i = .ok t j → j ≤ s.size) ∧ (∀ a e, altLoop s n d acc i = .bad a e → a ≤ s.size)) ∧ (∀ d i, i < s.size → (∀ t j, piece s n d i = .ok t j → j ≤ s.size) ∧ (∀ a e, piece s n d i = .bad a e → a ≤ s.size)) ∧ (∀ d i, i < s.size → (∀ t j, atom s n d i = .ok t j → j ≤ s.size) ∧ (∀ a e, atom s n d i = .bad a e → a ≤ s.size)) ∧ (∀ d i, i < s.size → (∀ t j, group s n d i = .ok t j → j ≤ s.size) ∧ (∀ a e, group s n d i = .bad a e → a ≤ s.size)) := by
  induction n with
  | zero => refine ⟨?_, ?_, ?_, ?_, ?_, ?_, ?_⟩ <;> intros <;> simp [pat, patLoop, alt, altLoop, piece, atom, group]
  | succ n ih =>
    obtain ⟨i1, i2, i3, i4, i5, i6, i7⟩ := ih
    refine ⟨fun d i hi => ?_, fun d acc i hi => ?_, fun d i hi => ?_, fun d acc i hi => ?_, fun d i hi => ?_, fun d i hi => ?_, fun d i hi => ?_⟩
    · rw [pat]
      cases hc : alt s n d i with
      | ok t j => exact i2 _ _ _ ((i3 d i hi).1 _ _ hc)
      | bad a e => exact ⟨fun t j h => (by cases h), fun a e h => by cases h; exact (i3 d i hi).2 _ _ hc⟩
      | out => exact ⟨fun t j h => (by cases h), fun a e h => by cases h⟩
    · rw [patLoop]
      split
      · rename_i g
        have hlt := sees_lt g
        cases hc : alt s n d (i + 1) with
        | ok t j => exact i2 _ _ _ ((i3 d (i + 1) hlt).1 _ _ hc)
        | bad a e => exact ⟨fun t j h => (by cases h), fun a e h => by cases h; exact (i3 d (i + 1) hlt).2 _ _ hc⟩
        | out => exact ⟨fun t j h => (by cases h), fun a e h => by cases h⟩
      · exact ⟨fun t j h => (by cases h; exact hi), fun a e h => by cases h⟩
    · rw [alt]
      exact i4 _ _ _ hi
    · rw [altLoop]
      split
      · rename_i g
        have hlt : i < s.size := by simp at g; exact g.1.1
        cases hc : piece s n d i with
        | ok t j => exact i4 _ _ _ ((i5 d i hlt).1 _ _ hc)
        | bad a e => exact ⟨fun t j h => (by cases h), fun a e h => by cases h; exact (i5 d i hlt).2 _ _ hc⟩
        | out => exact ⟨fun t j h => (by cases h), fun a e h => by cases h⟩
      · exact ⟨fun t j h => (by cases h; exact hi), fun a e h => by cases h⟩
    · rw [piece]
      split
      · exact ⟨fun t j h => (by cases h; exact hi), fun a e h => by cases h⟩
      · split
        · exact ⟨fun t j h => (by cases h; exact hi), fun a e h => by cases h⟩
        · cases hc : atom s n d i with
          | ok t j =>
            have hj := (i6 d i hi).1 _ _ hc
            exact ⟨fun u k h => repeated_le hj h, fun a e h => by have := repeated_at h; omega⟩
          | bad a e => exact ⟨fun t j h => (by cases h), fun a e h => by cases h; exact (i6 d i hi).2 _ _ hc⟩
          | out => exact ⟨fun t j h => (by cases h), fun a e h => by cases h⟩
    · rw [atom]
      split
      · exact ⟨fun t j h => (by cases h), fun a e h => by cases h; omega⟩
      · split
        · exact i7 _ _ hi
        · split
          · cases hc : setOf s n i with
            | ok x j => exact ⟨fun t k h => (by cases h; exact (setOf_at hi).1 _ _ hc), fun a e h => by cases h⟩
            | bad a e => exact ⟨fun t j h => (by cases h), fun a e h => by cases h; exact (setOf_at hi).2 _ _ hc⟩
            | out => exact ⟨fun t j h => (by cases h), fun a e h => by cases h⟩
          · split
            · exact ⟨fun t j h => (by cases h; exact hi), fun a e h => by cases h⟩
            · split
              · split
                · exact ⟨fun t j h => (by cases h), fun a e h => by cases h; omega⟩
                · rename_i g
                  have hne : ¬ i + 1 = s.size := fun e => g (by simp [e])
                  exact ⟨fun t j h => (by cases h; omega), fun a e h => by cases h⟩
              · exact ⟨fun t j h => (by cases h; exact hi), fun a e h => by cases h⟩
    · rw [group]
      split
      · exact ⟨fun t j h => (by cases h), fun a e h => by cases h; omega⟩
      · cases hc : pat s n (d + 1) (i + 1) with
        | ok t j =>
          have hj := (i1 (d + 1) (i + 1) hi).1 _ _ hc
          simp only
          split
          · exact ⟨fun t j h => (by cases h), fun a e h => by cases h; omega⟩
          · exact ⟨fun t j h => (by cases h; omega), fun a e h => by cases h⟩
        | bad a e => exact ⟨fun t j h => (by cases h), fun a e h => by cases h; exact (i1 (d + 1) (i + 1) hi).2 _ _ hc⟩
        | out => exact ⟨fun t j h => (by cases h), fun a e h => by cases h⟩
end Go.Proofs.YtmjnobdlgbojoaaGreatDoor


namespace Go.Proofs.YtmjnobdlgbojoaaGreatDoor
end Go.Proofs.YtmjnobdlgbojoaaGreatDoor


namespace Go.Proofs.YtmjnobdlgbojoaaGreatDoor
variable {s s' : ByteArray}
def Pl (s : ByteArray) (i j : Nat) : Prop := ∀ l, i ≤ l → l < j → byt s l ≠ 92 ∧ byt s l ≠ 91 ∧ byt s l ≠ 40 ∧ byt s l ≠ 41 ∧ byt s l ≠ 124
def Deep (R : Nat → Rs Tr) (t : Tr) (j h : Nat) : Prop := (∀ d, d + h ≤ 64 → R d = .ok t j) ∧ (∀ d, d ≤ 64 → 64 < d + h → ∃ a, R d = .bad a 47)
end Go.Proofs.YtmjnobdlgbojoaaGreatDoor


namespace Go.Proofs.YtmjnobdlgbojoaaGreatDoor
theorem count_bad {s : ByteArray} {o i a e : Nat} (h : count s o i = .bad a e) : e = 45 := by
  unfold count at h
  split at h
  · cases h; rfl
  · cases h
theorem countsEnd_bad {s : ByteArray} {o j a e : Nat} {l x : Int} (h : countsEnd s o l x j = .bad a e) : e = 45 := by
  unfold countsEnd at h
  split at h
  · cases h
  · cases h; rfl
theorem counts_bad {s : ByteArray} {i a e : Nat} (h : counts s i = .bad a e) : e = 45 := by
  unfold counts at h
  split at h
  · split at h
    · split at h
      · exact countsEnd_bad h
      · split at h
        · exact countsEnd_bad h
        · rename_i h2; cases h; exact count_bad h2
        · cases h
    · exact countsEnd_bad h
  · rename_i h2; cases h; exact count_bad h2
  · cases h
theorem repeated_bad {s : ByteArray} {t : Tr} {i a e : Nat} (h : repeated s t i = .bad a e) : e = 45 := by
  unfold repeated at h
  split at h
  · cases h
  · split at h
    · cases h
    · split at h
      · cases h
      · split at h
        · split at h
          · cases h
          · rename_i h2; cases h; exact counts_bad h2
          · cases h
        · cases h
theorem classOf_code (n : ByteArray) : (classOf n).2 = 0 ∨ (classOf n).2 = 30 := by
  have key : ∀ (c : Bool) (x y : Oct.S × Nat), (y.2 = 0 ∨ y.2 = 30) → x.2 = 0 → ((if c = true then x else y).2 = 0 ∨ (if c = true then x else y).2 = 30) := fun c x y h1 h2 => by
    cases c
    · exact h1
    · exact .inl h2
  unfold classOf
  iterate 12 refine key _ _ _ ?_ rfl
  exact .inr rfl
theorem item_bad {s : ByteArray} {o i a e : Nat} (h : item s o i = .bad a e) : e = 43 ∨ e = 30 := by
  unfold item at h
  split at h
  · cases h; simp
  · split at h
    · unfold class_ at h
      split at h
      · split at h
        · cases h
        · rename_i h0
          cases h
          rcases classOf_code (className s i) with h1 | h1
          · exact absurd h1 h0
          · exact .inr h1
      · cases h; simp
    · split at h
      · cases h; simp
      · split at h
        · unfold span_ at h
          split at h
          · cases h; simp
          · cases h
        · cases h
theorem setLoop_bad {s : ByteArray} {o : Nat} : ∀ {f : Nat} {x : Oct.S} {i a e : Nat}, setLoop s o f x i = .bad a e → e = 43 ∨ e = 30 := by
  intro f
  induction f with
  | zero => intro x i a e h; simp [setLoop] at h
  | succ f ih =>
    intro x i a e h
    rw [setLoop] at h
    split at h
    · cases h
    · split at h
      · exact ih h
      · rename_i h2; cases h; exact item_bad h2
      · cases h
theorem setOf_bad {s : ByteArray} {f i a e : Nat} (h : setOf s f i = .bad a e) : e = 43 ∨ e = 30 := by
  unfold setOf at h
  split at h
  · split at h
    · cases h
    · rename_i h2; cases h; exact setLoop_bad h2
    · cases h
  · rename_i h2; cases h; exact item_bad h2
  · cases h
end Go.Proofs.YtmjnobdlgbojoaaGreatDoor


namespace Go.Proofs.YtmjnobdlgbojoaaGreatDoor
end Go.Proofs.YtmjnobdlgbojoaaGreatDoor


namespace Go.Proofs.YtmjnobdlgbojoaaGreatDoor
end Go.Proofs.YtmjnobdlgbojoaaGreatDoor


namespace Go.Proofs.YtmjnobdlgbojoaaGreatDoor
def Code (e : Nat) : Prop := (40 ≤ e ∧ e ≤ 48) ∨ e = 30
theorem read_code (s : ByteArray) (n : Nat) : (∀ d i a e, pat s n d i = .bad a e → Code e) ∧ (∀ d acc i a e, patLoop s n d acc i = .bad a e → Code e) ∧ (∀ d i a e, alt s n d i = .bad a e → Code e) ∧ (∀ d acc i a e, altLoop s n d acc i = .bad a e → Code e) ∧ (∀ d i a e, piece s n d i = .bad a e → Code e) ∧ (∀ d i a e, atom s n d i = .bad a e → Code e) ∧ (∀ d i a e, group s n d i = .bad a e → Code e) := by
  induction n with
  | zero => refine ⟨?_, ?_, ?_, ?_, ?_, ?_, ?_⟩ <;> intros <;> simp_all [pat, patLoop, alt, altLoop, piece, atom, group]
  | succ n ih =>
    obtain ⟨i1, i2, i3, i4, i5, i6, i7⟩ := ih
    refine ⟨fun d i a e h => ?_, fun d acc i a e h => ?_, fun d i a e h => ?_, fun d acc i a e h => ?_, fun d i a e h => ?_, fun d i a e h => ?_, fun d i a e h => ?_⟩
    · rw [pat] at h
      split at h
      · exact i2 _ _ _ _ _ h
      · rename_i hc; cases h; exact i3 _ _ _ _ hc
      · cases h
    · rw [patLoop] at h
      split at h
      · split at h
        · exact i2 _ _ _ _ _ h
        · rename_i hc; cases h; exact i3 _ _ _ _ hc
        · cases h
      · cases h
    · rw [alt] at h
      exact i4 _ _ _ _ _ h
    · rw [altLoop] at h
      split at h
      · split at h
        · exact i4 _ _ _ _ _ h
        · rename_i hc; cases h; exact i5 _ _ _ _ hc
        · cases h
      · cases h
    · rw [piece] at h
      split at h
      · cases h
      · split at h
        · cases h
        · split at h
          · have := repeated_bad h; unfold Code; omega
          · rename_i hc; cases h; exact i6 _ _ _ _ hc
          · cases h
    · rw [atom] at h
      split at h
      · cases h; unfold Code; omega
      · split at h
        · exact i7 _ _ _ _ h
        · split at h
          · split at h
            · cases h
            · rename_i hc; cases h; have := setOf_bad hc; unfold Code; omega
            · cases h
          · split at h
            · cases h
            · split at h
              · split at h
                · cases h; unfold Code; omega
                · cases h
              · cases h
    · rw [group] at h
      split at h
      · cases h; unfold Code; omega
      · split at h
        · split at h
          · cases h; unfold Code; omega
          · cases h
        · rename_i hc; cases h; exact i1 _ _ _ _ hc
        · cases h
theorem indexByte_le' (l : List UInt8) (c : UInt8) : Go.Lib.indexByte l c ≤ l.length := by
  induction l with
  | nil => simp [Go.Lib.indexByte]
  | cons b l ih =>
    unfold Go.Lib.indexByte
    simp only [List.length_cons]
    split
    · omega
    · split <;> omega
theorem parse_bad {p : ByteArray} {a e : Nat} (h : parseOf p = .bad a e) : a ≤ p.size ∧ Code e ∧ (p.size ≤ 1024 ∨ (e = 40 ∧ a = 1024)) := by
  unfold parseOf at h
  split at h
  · cases h; exact ⟨by omega, by unfold Code; omega, by omega⟩
  · split at h
    · cases h
      have h1 := indexByte_le' p.data.toList 10
      have hl : p.data.toList.length = p.size := by simp
      refine ⟨by unfold newlineAt; omega, by unfold Code; omega, by omega⟩
    · refine ⟨?_, ?_, by omega⟩
      · unfold wholeOf at h
        have hr := (read_at p (8 * p.size + 8)).1 0 0 (Nat.zero_le _)
        split at h
        · rename_i t j hc
          have hj := hr.1 _ _ hc
          split at h
          · split at h
            · cases h; omega
            · cases h
          · cases h; omega
        · rename_i a' e' hc
          cases h
          exact hr.2 _ _ hc
        · cases h
      · unfold wholeOf at h
        split at h
        · split at h
          · split at h
            · cases h; unfold Code; omega
            · cases h
          · cases h; unfold Code; omega
        · rename_i a' e' hc
          cases h
          exact (read_code p _).1 _ _ _ _ hc
        · cases h
theorem parse_ok {p : ByteArray} {t : Tr} {j : Nat} (h : parseOf p = .ok t j) : p.size ≤ 1024 ∧ (∀ i, byt p i ≠ 10) ∧ patOf p = .ok t p.size ∧ placesOf (up t) ≤ 2048 ∧ Good 1025 t ∧ newlineAt p < 0 := by
  unfold parseOf at h
  split at h
  · cases h
  · split at h
    · cases h
    · rename_i h1 h2
      have hnl := no_newline h2
      unfold wholeOf at h
      split at h
      · rename_i t' j' hc
        split at h
        · rename_i hj
          split at h
          · cases h
          · cases h
            subst hj
            exact ⟨by omega, hnl, hc, by omega, ((read_good p hnl _).1 _ _ _ _ hc).mono (by omega), by omega⟩
        · cases h
      · cases h
      · cases h
theorem good_plc {N : Nat} {t : Tr} (h : Good N t) : (plc (up t)).2 = true := by
  have key : ∀ (ts : List Tn) (n : Nat), (∀ t ∈ ts, (plc t).2 = true) → ∃ m, plcs ts n = some m := fun ts => by
    induction ts with
    | nil => intro n _; exact ⟨n, by rw [plcs]⟩
    | cons t ts ih =>
      intro n hh
      rw [plcs, if_pos (hh t (by simp))]
      exact ih _ (fun u hu => hh u (by simp [hu]))
  have fin : ∀ (k : Int) (s : Oct.S) (ts : List Tn) (mn mx : Int), shapedT k s ts.length mn mx = true → (∀ t ∈ ts, (plc t).2 = true) → (plc (.mk k s ts mn mx)).2 = true := fun k s ts mn mx hsh hh => by
    obtain ⟨m, hm⟩ := key ts 0 hh
    rw [plc, if_pos hsh, hm]
  have hno : noSet Oct.none = true := by unfold noSet; rw [show Oct.none = fun _ => false from rfl]; simp [Oct.word_none]
  induction h with
  | leaf k hk =>
    rw [up_mk]
    refine fin _ _ _ _ _ ?_ (by simp)
    unfold shapedT
    rcases hk with rfl | rfl | rfl <;> simp [hno, plainT]
  | set s h =>
    rw [up_mk]
    refine fin _ _ _ _ _ ?_ (by simp)
    unfold shapedT
    simp [h, plainT]
  | many k hk subs h2 hN hs ih =>
    rw [up_mk]
    refine fin _ _ _ _ _ ?_ (fun t ht => ?_)
    · unfold shapedT
      rcases hk with rfl | rfl <;> simp [hno, plainT, h2]
    · obtain ⟨u, hu, rfl⟩ := List.mem_map.1 ht
      exact ih u hu
  | times t l m hc ht ih =>
    rw [up_mk]
    refine fin _ _ _ _ _ ?_ (fun u hu => ?_)
    · unfold shapedT
      simp [hno, hc]
    · simp at hu
      subst hu
      exact ih
end Go.Proofs.YtmjnobdlgbojoaaGreatDoor


namespace Go.Proofs.YtmjnobdlgbojoaaGreatDoor
open Go.RowKit
theorem NodeAt.inA {X : Nat → Prop} {w : World} {t : Tr} {x : Nd} (h : NodeAt X w t x) {N : Nat} (h1 : 1 ≤ N) (hN : N ≤ 1000000) : Good N t → InAt w (up t) x := by
  induction h with
  | mk k s subs mn mx a n c vs hn hl hr hs ih =>
    intro hg
    obtain ⟨g1, g2⟩ := hg.subs h1
    rw [up_mk]
    refine .mk k s (subs.map up) mn mx a n c vs (by simp [hn]) hl (by omega) (hr.keep (fun _ _ _ => trivial) (fun _ _ _ => rfl)) (fun i t v ht hv => ?_)
    rw [List.getElem?_map] at ht
    cases hsi : subs[i]? with
    | none => rw [hsi] at ht; cases ht
    | some u =>
      rw [hsi] at ht
      cases ht
      exact ih i u v hsi hv (g2 u (List.mem_of_getElem? hsi))
theorem read_bad {s : ByteArray} {i c : Nat} (h : parseOf s = .bad i c) : c ≠ 0 := by
  have h1 := (parse_bad h).2.1
  unfold Code at h1
  omega
end Go.Proofs.YtmjnobdlgbojoaaGreatDoor


namespace Go.Proofs.YtmjnobdlgbojoaaGreatDoor
theorem mach_words (t : Tn) {k : Nat} (hk : k ≤ 31) : ∀ r ∈ (mach t k).rs, r < 4294967296 := by
  intro r hr
  have h2 : 2 ^ k < 4294967296 := Nat.lt_of_le_of_lt (Nat.pow_le_pow_right (by decide) hk) (by decide)
  rcases List.mem_or_eq_of_mem_set hr with h | h
  · rw [(List.mem_replicate.1 h).2]; decide
  · rw [h]; exact h2
theorem right_iff (M : Ma) : rightOf M = true ↔ 1 ≤ M.S ∧ (M.rs.length : Int) = M.S ∧ ∀ e ∈ M.es, okE M.S e = true := by
  unfold rightOf
  simp only [Bool.and_eq_true, decide_eq_true_eq, List.all_eq_true, and_assoc]
theorem okE_shift {S : Int} {e : Eg} (h : okE S e = true) {a T : Int} (ha : 0 ≤ a) (hT : S + a ≤ T) : okE T (shiftE a e) = true := by
  rw [okE_iff] at h ⊢
  unfold shiftE
  refine ⟨h.1, h.2.1, ?_, ?_, ?_, ?_, h.2.2.2.2.2.2⟩ <;> simp only <;> omega
theorem right_add {o M : Ma} (h : rightOf o = true) (h2 : rightOf M = true) : rightOf (addM o M) = true := by
  rw [right_iff] at h h2 ⊢
  obtain ⟨a1, a2, a3⟩ := h
  obtain ⟨b1, b2, b3⟩ := h2
  unfold addM
  refine ⟨by simp only; omega, by simp only [List.length_append]; omega, fun e he => ?_⟩
  simp only [List.mem_append, List.mem_cons, List.not_mem_nil, or_false, List.mem_map] at he
  rcases he with (he | he) | ⟨y, hy, rfl⟩
  · exact okE_mono (a3 e he) (by simp only; omega)
  · subst he
    rw [okE_iff]
    refine ⟨by simp, by simp, by simp, by simp; omega, by simp; omega, by simp; omega, Or.inr noSet_n⟩
  · exact okE_shift (b3 y hy) (by omega) (by simp only; omega)
theorem right_unions : ∀ (Ms : List Ma) (o : Ma), rightOf o = true → (∀ M ∈ Ms, rightOf M = true) → rightOf (unions Ms o) = true
  | [], o, h, _ => h
  | M :: Ms, o, h, h2 => right_unions Ms _ (right_add h (h2 M (by simp))) (fun N hN => h2 N (by simp [hN]))
theorem right_one : rightOf ⟨1, [], [0]⟩ = true := by rw [right_iff]; exact ⟨by simp, by simp, fun e he => by cases he⟩
def sumR : List Ma → Nat
  | [] => 0
  | M :: Ms => M.rs.length + sumR Ms
theorem sumR_le : ∀ (Ms : List Ma) (k : Nat), (∀ M ∈ Ms, M.rs.length ≤ k) → sumR Ms ≤ Ms.length * k
  | [], k, _ => by simp [sumR]
  | M :: Ms, k, h => by
    have h1 := h M (by simp)
    have h2 := sumR_le Ms k (fun N hN => h N (by simp [hN]))
    rw [sumR, List.length_cons, Nat.succ_mul]
    omega
theorem unions_rs : ∀ (Ms : List Ma) (o : Ma), (unions Ms o).rs.length = o.rs.length + sumR Ms
  | [], o => by rw [unions, sumR]; omega
  | M :: Ms, o => by
    rw [unions, unions_rs Ms, sumR]
    simp only [addM, List.length_append]
    omega
theorem unions_es : ∀ (Ms : List Ma) (o : Ma) (k : Nat), (∀ M ∈ Ms, M.es.length ≤ k) → (unions Ms o).es.length ≤ o.es.length + Ms.length * (k + 1)
  | [], o, k, _ => by rw [unions]; simp
  | M :: Ms, o, k, h => by
    have h1 := h M (by simp)
    have h2 := unions_es Ms (addM o M) k (fun N hN => h N (by simp [hN]))
    rw [unions, List.length_cons, Nat.succ_mul]
    simp only [addM, List.length_append, List.length_cons, List.length_nil, List.length_map] at h2
    simp only [addM] at h2 ⊢
    omega
theorem unions_words : ∀ (Ms : List Ma) (o : Ma), (∀ r ∈ o.rs, r < 4294967296) → (∀ M ∈ Ms, ∀ r ∈ M.rs, r < 4294967296) → ∀ r ∈ (unions Ms o).rs, r < 4294967296
  | [], o, h, _ => h
  | M :: Ms, o, h, h2 => unions_words Ms _ (fun r hr => by
      simp only [addM, List.mem_append] at hr
      rcases hr with hr | hr
      · exact h r hr
      · exact h2 M (by simp) r hr) (fun N hN => h2 N (by simp [hN]))
end Go.Proofs.YtmjnobdlgbojoaaGreatDoor
