/- table.readSize, readClass. -/
import Derived.Test.YtdngileimmgdnaaDoorG12
namespace Go.Proofs.YtdngileimmgdnaaDoor
open Go.RowKit
attribute [local go_sem ↓] Go.wp_at_zero Go.wp_at_succ

theorem gtr {a b c : World} {P : Option Nat} (h1 : a.grownBy b P) (h2 : b.grownBy c P) : a.grownBy c P :=
  ⟨h2.os.trans h1.os, h2.tape.trans h1.tape, h2.output.trans h1.output, Nat.le_trans h1.size h2.size, fun k hk hne => (h2.block k (Nat.lt_of_lt_of_le hk h1.size) hne).trans (h1.block k hk hne)⟩
theorem grf (a : World) (P : Option Nat) : a.grownBy a P := ⟨rfl, rfl, rfl, Nat.le_refl _, fun _ _ _ => rfl⟩
theorem gbl {a b : World} {P : Option Nat} (h : Below a.heap.size a b) : a.grownBy b P := ⟨h.os, h.tape, h.output, h.size, fun k hk _ => h.block k hk⟩
theorem beq_bytes (a b : ByteArray) : (a.toList == b.toList) = decide (a = b) := by
  rw [ByteArray.toList_eq, ByteArray.toList_eq, Bool.eq_iff_iff]
  simp only [beq_iff_eq, decide_eq_true_eq]
  constructor
  · intro h
    have := Array.toList_inj.1 h
    cases a; cases b; simp_all
  · intro h; rw [h]
def sizeT (zs : List Int) : Bool := headT zs && (decide (14 ≤ zs.length) && decide (rdS zs ≤ 4096 ∧ rdC zs ≤ 256))
def SizePost (zs : List Int) (P H : Nat) (w : World) (e : Ending) (w' : World) : Prop :=
  ((sizeT zs = true ∧ e = .returned (.tuple #[.int .i64 (rdS zs : Nat), .int .i64 (rdC zs : Nat), .bool true]) ∧ Rd w' P H 14 (zs.drop 14)) ∨ (sizeT zs = false ∧ e = .returned (.tuple #[.int .i64 0, .int .i64 0, .bool false]))) ∧ w.grownBy w' (some P)
def wordS : ByteArray := ⟨#[72, 69, 82, 79, 78, 68, 70, 49]⟩
theorem word_list : wordS.toList = [72, 69, 82, 79, 78, 68, 70, 49] := by rw [ByteArray.toList_eq]; rfl
theorem str_word : Rec.str wordS = wordB := by decide
theorem head_iff {zs : List Int} (hb : Rec.Bs zs) : (strOfNums (zs.take 8) = wordS) ↔ zs.take 8 = wordB := by
  constructor
  · intro h
    have := str_strOf (Rec.bs_take hb 8)
    rw [h, str_word] at this
    exact this.symm
  · intro h
    rw [h, ← str_word]
    exact strOf_str _
set_option maxHeartbeats 4000000 in
theorem size_any (P H : Nat) (zs : List Int) (w : World) (hr : Rd w P H 0 zs) (hb : Rec.Bs zs) (hl : zs.length ≤ 140737488355328) :
    Calls Tryd.prog 38 #[.pointer (some ⟨P, 0, none⟩)] w (SizePost zs P H w) := by
  have HR : Hid (Rd w P H 0 zs) := hr
  have HB : Hid (Rec.Bs zs) := hb
  have HL : Hid (zs.length ≤ 140737488355328) := hl
  by_cases h8 : zs.length < 8
  · have HF : Hid (sizeT zs = false) := by
      show _ = _
      unfold sizeT
      rw [show decide (14 ≤ zs.length) = false by simp; omega]
      simp
    have HC : Hid (Calls Tryd.prog 51 #[.pointer (some ⟨P, 0, none⟩), .int .i64 8] w fun e w' => e = .returned (.tuple #[.slice none 0 0, .int .i64 20]) ∧ w' = w) := take_short P H 0 8 zs w hr (by omega)
    clear hr hb hl h8
    go_enter Tryd.func38, Tryd.ntmps38
    go_wp2_with fail
    refine HC.out.mono ?_
    rintro e w' ⟨rfl, rfl⟩
    clear HC
    go_wp2
    exact bodyPost_ret (v := .tuple #[.int .i64 0, .int .i64 0, .bool false]) (by simp [results, Tryd.results38, go_sem]) rfl ⟨.inr ⟨HF.out, rfl⟩, grf _ _⟩
  have HC : Hid (Calls Tryd.prog 51 #[.pointer (some ⟨P, 0, none⟩), .int .i64 8] w fun e w' => ∃ a, e = .returned (.tuple #[.slice a 8 8, .int .i64 0]) ∧ (8 ≠ 0 → a = some ⟨H, 0, none⟩) ∧ BytesAt w' a (zs.take 8) ∧ Rd w' P H (0 + 8) (zs.drop 8) ∧ w.grownBy w' (some P)) := take_ok P H 0 8 zs w hr hl (by omega)
  have HH : Hid (headT zs = decide (zs.take 8 = wordB)) := rfl
  have HI : Hid ((strOfNums (zs.take 8) = wordS) ↔ zs.take 8 = wordB) := head_iff hb
  have H8 : Hid (8 ≤ zs.length) := by show 8 ≤ _; omega
  clear hr hb hl h8
  go_enter Tryd.func38, Tryd.ntmps38
  go_wp2_with fail
  refine HC.out.mono ?_
  rintro e w1 ⟨a1, rfl, ha1, hb1, hr1, hg1⟩
  have ha2 := ha1 (by decide)
  clear ha1
  subst ha2
  have hcv := conv_string w1 (some ⟨H, 0, none⟩) 8 8 (zs.take 8) (by rw [List.length_take]; have := H8.out; omega) hb1
  have HR1 : Hid (Rd w1 P H 8 (zs.drop 8)) := by rw [Nat.zero_add] at hr1; exact hr1
  have HG1 : Hid (w.grownBy w1 (some P)) := hg1
  obtain ⟨S0, hS0⟩ : ∃ S0, strOfNums (zs.take 8) = S0 := ⟨_, rfl⟩
  rw [hS0] at hcv HI
  clear hS0 hr1 hg1 HC hb1
  by_cases hw : S0 = wordS
  case neg =>
    have HF : Hid (sizeT zs = false) := by
      show _ = _
      unfold sizeT
      rw [HH.out, decide_eq_false (fun e => hw (HI.out.2 e))]
      rfl
    have hne : (S0.toList == [72, 69, 82, 79, 78, 68, 70, 49]) = false := by have h := beq_bytes S0 wordS; rw [decide_eq_false hw, word_list] at h; exact h
    go_wp2
    exact bodyPost_ret (v := .tuple #[.int .i64 0, .int .i64 0, .bool false]) (by simp [results, Tryd.results38, go_sem]) rfl ⟨.inr ⟨HF.out, rfl⟩, HG1.out⟩
  have HW : Hid (headT zs = true) := by show _ = _; rw [HH.out]; exact decide_eq_true (HI.out.1 hw)
  have hcw : (convert 28 9 (.slice (some ⟨H, 0, none⟩) 8 8)).run Tryd.prog w1 = .ok (.string ⟨#[72, 69, 82, 79, 78, 68, 70, 49]⟩) w1 := by rw [hcv, hw]; rfl
  clear hcv hw HI HH
  by_cases h12 : zs.length < 12
  · have HF : Hid (sizeT zs = false) := by
      show _ = _
      unfold sizeT
      rw [show decide (14 ≤ zs.length) = false by simp; omega]
      simp
    have HC : Hid (Calls Tryd.prog 37 #[.pointer (some ⟨P, 0, none⟩), .int .i64 4] w1 fun e w' => e = .returned (.tuple #[.int .u64 0, .int .i64 20]) ∧ w' = w1) := rnum_short P H 8 4 (zs.drop 8) w1 HR1.out (by decide) (by decide) (by rw [List.length_drop]; omega)
    clear h12
    go_wp2_with fail
    refine HC.out.mono ?_
    rintro e w2 ⟨rfl, rfl⟩
    clear HC
    go_wp2
    exact bodyPost_ret (v := .tuple #[.int .i64 0, .int .i64 0, .bool false]) (by simp [results, Tryd.results38, go_sem]) rfl ⟨.inr ⟨HF.out, rfl⟩, HG1.out⟩
  have HC : Hid (Calls Tryd.prog 37 #[.pointer (some ⟨P, 0, none⟩), .int .i64 4] w1 fun e w' => e = .returned (.tuple #[.int .u64 (rdS zs : Nat), .int .i64 0]) ∧ Rd w' P H 12 (zs.drop 12) ∧ w1.grownBy w' (some P)) := by
    have h := rnum_ok P H 8 4 (zs.drop 8) w1 HR1.out (by decide) (by decide) (by rw [List.length_drop]; have := HL.out; omega) (by rw [List.length_drop]; omega) (Rec.bs_drop HB.out 8)
    rw [List.drop_drop] at h
    exact h
  have hS4 : rdS zs < 4294967296 := by have := vl_lt HB.out 8 4; rw [Rec.pow4] at this; exact this
  have HS : Hid (sizeT zs = (decide (14 ≤ zs.length) && decide (rdS zs ≤ 4096 ∧ rdC zs ≤ 256))) := by show _ = _; unfold sizeT; rw [HW.out]; rfl
  have HRP : Hid (∀ e w', SizePost zs P H w e w' → SizePost zs P H w e w') := fun _ _ h => h
  have H12 : Hid (12 ≤ zs.length) := by show 12 ≤ _; omega
  obtain ⟨S, hSS⟩ : ∃ S, rdS zs = S := ⟨_, rfl⟩
  have HSS : Hid (rdS zs = S) := hSS
  rw [hSS] at HC hS4 HS
  clear hSS h12 HW HR1 H8
  go_wp2_with fail
  refine HC.out.mono ?_
  rintro e w2 ⟨rfl, hr2, hg2⟩
  have HR2 : Hid (Rd w2 P H 12 (zs.drop 12)) := hr2
  have HG2 : Hid (w.grownBy w2 (some P)) := gtr HG1.out hg2
  clear HC hr2 hg2 HG1 hcw
  by_cases hbig : 4096 < S
  · have HF : Hid (sizeT zs = false) := by
      show _ = _
      rw [HS.out, show decide (S ≤ 4096 ∧ rdC zs ≤ 256) = false by simp; omega]
      simp
    go_wp2
    exact bodyPost_ret (v := .tuple #[.int .i64 0, .int .i64 0, .bool false]) (by simp [results, Tryd.results38, go_sem]) rfl ⟨.inr ⟨HF.out, rfl⟩, HG2.out⟩
  by_cases h14 : zs.length < 14
  · have HF : Hid (sizeT zs = false) := by
      show _ = _
      rw [HS.out, show decide (14 ≤ zs.length) = false by simp; omega]
      rfl
    have HC : Hid (Calls Tryd.prog 37 #[.pointer (some ⟨P, 0, none⟩), .int .i64 2] w2 fun e w' => e = .returned (.tuple #[.int .u64 0, .int .i64 20]) ∧ w' = w2) := rnum_short P H 12 2 (zs.drop 12) w2 HR2.out (by decide) (by decide) (by rw [List.length_drop]; omega)
    clear h14
    go_wp2_with fail
    refine HC.out.mono ?_
    rintro e w3 ⟨rfl, rfl⟩
    clear HC
    go_wp2
    exact bodyPost_ret (v := .tuple #[.int .i64 0, .int .i64 0, .bool false]) (by simp [results, Tryd.results38, go_sem]) rfl ⟨.inr ⟨HF.out, rfl⟩, HG2.out⟩
  have HC : Hid (Calls Tryd.prog 37 #[.pointer (some ⟨P, 0, none⟩), .int .i64 2] w2 fun e w' => e = .returned (.tuple #[.int .u64 (rdC zs : Nat), .int .i64 0]) ∧ Rd w' P H 14 (zs.drop 14) ∧ w2.grownBy w' (some P)) := by
    have h := rnum_ok P H 12 2 (zs.drop 12) w2 HR2.out (by decide) (by decide) (by rw [List.length_drop]; have := HL.out; omega) (by rw [List.length_drop]; omega) (Rec.bs_drop HB.out 12)
    rw [List.drop_drop] at h
    exact h
  have hC2 : rdC zs < 65536 := vl_lt HB.out 12 2
  have HS2 : Hid (sizeT zs = decide (S ≤ 4096 ∧ rdC zs ≤ 256)) := by show _ = _; rw [HS.out, show decide (14 ≤ zs.length) = true by simp; omega]; rfl
  obtain ⟨C, hCC⟩ : ∃ C, rdC zs = C := ⟨_, rfl⟩
  have HCC : Hid (rdC zs = C) := hCC
  rw [hCC] at HC hC2 HS2
  clear hCC h14 HS HR2
  go_wp2_with fail
  refine HC.out.mono ?_
  rintro e w3 ⟨rfl, hr3, hg3⟩
  have HR3 : Hid (Rd w3 P H 14 (zs.drop 14)) := hr3
  have HG3 : Hid (w.grownBy w3 (some P)) := gtr HG2.out hg3
  clear HC hr3 hg3 HG2
  by_cases hbc : 256 < C
  · have HF : Hid (sizeT zs = false) := by
      show _ = _
      rw [HS2.out]
      simp
      omega
    go_wp2
    exact bodyPost_ret (v := .tuple #[.int .i64 0, .int .i64 0, .bool false]) (by simp [results, Tryd.results38, go_sem]) rfl ⟨.inr ⟨HF.out, rfl⟩, HG3.out⟩
  have HY : Hid (sizeT zs = true) := by
    show _ = _
    rw [HS2.out]
    simp
    omega
  go_wp2
  exact bodyPost_ret (v := .tuple #[.int .i64 (S : Nat), .int .i64 (C : Nat), .bool true]) (by simp [results, Tryd.results38, go_sem]) rfl ⟨.inl ⟨HY.out, by rw [HSS.out, HCC.out], HR3.out⟩, HG3.out⟩
/-- the classes -/
def ClassPost (zs : List Int) (P H : Nat) (w : World) (e : Ending) (w' : World) : Prop :=
  ((270 ≤ zs.length ∧ e = .returned (.tuple #[.agg (cv (rdCl zs)), .bool true]) ∧ Rd w' P H 270 (zs.drop 270)) ∨ (zs.length < 270 ∧ e = .returned (.tuple #[.agg (cv fun _ => 0), .bool false]))) ∧ w.grownBy w' (some P)
set_option maxRecDepth 20000 in
theorem builtA0 (w : World) : (Instr.build 22 #[]).run Tryd.prog w = .ok (.agg (cv fun _ => 0)) w := run_build w _ _ _ (by kernel_rfl)
theorem wpList_build_arr0 {ops : Array Oper} {rest : List Oper} {o : Oper} {a : Act} {w : World} {Q : Exit → Act → World → Prop} (hgd : o.guard = none) (ho : o.op = .build 22 #[])
    (hk : wpList Tryd.prog ops Q rest (a.put o.dst (.agg (cv fun _ => 0))) w) : wpList Tryd.prog ops Q (o :: rest) a w := by
  refine wpList_plain hgd fun K hK => ?_
  unfold Oper.wp execOp
  simp only [ho, List.map_toArray, List.map_nil, Sem.run_bind, builtA0 w]
  exact hK _ _ hk
theorem Rd.move {w w' : World} {P H off : Nat} {zs : List Int} (h : Rd w P H off zs) (hb : Below w.heap.size w w') (hP : P < w.heap.size) (hH : H < w.heap.size) : Rd w' P H off zs := h.later (hb.block P hP) (hb.block H hH)
theorem Rd.P_lt {w : World} {P H off : Nat} {zs : List Int} (h : Rd w P H off zs) : P < w.heap.size := by
  obtain ⟨a, e1, _⟩ := h
  exact (Array.getElem?_eq_some_iff.1 e1).1
theorem Rd.ty {w : World} {P H off : Nat} {zs : List Int} (h : Rd w P H off zs) : TyB w 79 P := by
  obtain ⟨a, e1, _⟩ := h
  exact ⟨_, _, e1⟩
/-- what readClass has so far -/
structure Rc (w : World) (P H A : Nat) (zs : List Int) (k : Nat) (u : World) : Prop where
  rd : Rd u P H (14 + k) (zs.drop (14 + k))
  res : AB u A (fun _ => 0)
  arr : AB u (A + 1) (fun i => if i < k then rdCl zs i else 0)
  gr : w.grownBy u (some P)
  pA : P < A
  wA : w.heap.size ≤ A
theorem Rc.num {w u v : World} {P H A k : Nat} {zs : List Int} (h : Rc w P H A zs k u) (hr : Rd v P H (14 + k + 1) (zs.drop (14 + k + 1))) (hg : u.grownBy v (some P)) :
    Rc w P H A zs (k + 1) (v.setCell ⟨A + 1, k, none⟩ (.int .i64 (rdCl zs k))) := by
  have hpA := h.pA
  have e : ∀ b, b ≠ P → b < u.heap.size → v.heap[b]? = u.heap[b]? := fun b hb hl => hg.block b hl (by simpa using hb)
  have a1 : AB v (A + 1) (fun i => if i < k then rdCl zs i else 0) := h.arr.same (e (A + 1) (by omega) h.arr.lt)
  have a0 : AB v A (fun _ => 0) := h.res.same (e A (by omega) h.res.lt)
  have hH : H ≠ A + 1 ∨ zs.drop (14 + k + 1) = [] := by
    by_cases hz : zs.drop (14 + k + 1) = []
    · exact .inr hz
    · left
      intro eH
      obtain ⟨a, _, _, _, hc⟩ := hr
      have := hc 0 (List.length_pos_iff.2 hz)
      rw [eH] at this
      unfold AB at a1
      simp only [World.cell?, a1] at this
      by_cases hi : 14 + k + 1 + 0 < 256
      · rw [cv_at _ hi] at this
        cases this
      · rw [cv_out _ (by omega)] at this
        cases this
  refine ⟨?_, ?_, ?_, ?_, hpA, h.wA⟩
  · obtain ⟨a, r1, r2, r3, r4⟩ := hr
    refine ⟨a, ?_, r2, r3, fun j hj => ?_⟩
    · exact (Below.heap_setCell v ⟨A + 1, k, none⟩ _ P (by show P ≠ A + 1; omega)).trans r1
    · rcases hH with hH | hH
      · rw [World.cell?_of_block (w := v) (Below.heap_setCell v ⟨A + 1, k, none⟩ _ H hH)]
        exact r4 j hj
      · rw [show 14 + (k + 1) = 14 + k + 1 by omega, hH] at hj
        simp at hj
  · exact a0.same (Below.heap_setCell v ⟨A + 1, k, none⟩ _ A (by show A ≠ A + 1; omega))
  · have h2 := a1.set k (rdCl zs k)
    have e2 : (fun j => if j = k then rdCl zs k else if j < k then rdCl zs j else 0) = (fun i => if i < k + 1 then rdCl zs i else 0) := by
      funext j
      by_cases e1 : j = k
      · subst e1; simp
      · rw [if_neg e1]
        by_cases h3 : j < k
        · rw [if_pos h3, if_pos (by omega)]
        · rw [if_neg h3, if_neg (by omega)]
    rw [e2] at h2
    exact h2
  · have g2 := gtr h.gr hg
    have hwA := h.wA
    exact ⟨g2.os, g2.tape, g2.output, by simpa [World.setCell] using g2.size, fun b hb hne => (Below.heap_setCell v ⟨A + 1, k, none⟩ _ b (by show b ≠ A + 1; omega)).trans (g2.block b hb hne)⟩
set_option maxRecDepth 20000 in
set_option maxHeartbeats 8000000 in
theorem class_any (P H : Nat) (zs : List Int) (w : World) (hr : Rd w P H 14 (zs.drop 14)) (hH : H < w.heap.size) (hb : Rec.Bs zs) (hl : zs.length ≤ 140737488355328) (h14 : 14 ≤ zs.length) :
    Calls Tryd.prog 39 #[.pointer (some ⟨P, 0, none⟩)] w (ClassPost zs P H w) := by
  obtain ⟨A, hA⟩ : ∃ A, w.heap.size = A := ⟨_, rfl⟩
  obtain ⟨w1, hw1⟩ : ∃ w1, w.alloc (.cells (cv fun _ => 0) 22) = w1 := ⟨_, rfl⟩
  obtain ⟨w2, hw2⟩ : ∃ w2, w1.alloc (.cells (cv fun _ => 0) 22) = w2 := ⟨_, rfl⟩
  have z1 : w1.heap.size = A + 1 := by rw [← hw1, ← hA]; simp
  have k1 : Below w.heap.size w w1 := by rw [← hw1]; exact (Below.refl _ _).alloc (Nat.le_refl _) _
  have k2 : Below w1.heap.size w1 w2 := by rw [← hw2]; exact (Below.refl _ _).alloc (Nat.le_refl _) _
  have a0 : AB w1 A (fun _ => 0) := by rw [← hw1, ← hA]; exact ab_new w _
  have a1 : AB w2 (A + 1) (fun _ => 0) := by rw [← hw2, ← z1]; exact ab_new w1 _
  have hP := hr.P_lt
  have HS0 : Hid (Rc w P H A zs 0 w2) := ⟨hr.move (below_step k1 k2) hP hH, a0.later k2, by
    have e : (fun i => if i < 0 then rdCl zs i else 0) = (fun _ => (0 : Int)) := by funext i; rw [if_neg (by omega)]
    rw [e]; exact a1, gbl (below_step k1 k2), by omega, by omega⟩
  have HW1 : Hid (w.alloc (.cells (cv fun _ => 0) 22) = w1) := hw1
  have HW2 : Hid (w1.alloc (.cells (cv fun _ => 0) 22) = w2) := hw2
  have HAA : Hid (w.heap.size = A) := hA
  have HZ1 : Hid (w1.heap.size = A + 1) := z1
  have HB : Hid (Rec.Bs zs) := hb
  have HL : Hid (zs.length ≤ 140737488355328) := hl
  have H14 : Hid (14 + 0 ≤ zs.length) := h14
  clear hr hH hb hl hw1 hw2 hA z1 k1 k2 a0 a1 hP h14
  have hz := zeroArr
  go_enter Tryd.func39, Tryd.ntmps39
  go_upto_region 1 with fail
  rw [HW1.out, HAA.out]
  clear HW1
  go_upto_region 2 with fail
  rw [HW2.out, HZ1.out]
  clear HW2
  go_wp2_with fail
  go_loopw [8] (fun i u => ∃ k : Nat, i = .int .i64 (k : Nat) ∧ k ≤ 256 ∧ Hid (14 + k ≤ zs.length) ∧ Hid (Rc w P H A zs k u)) (fun i _ => 256 - (intOf i).toNat)
  case atStart => exact ⟨0, rfl, by omega, H14, HS0⟩
  case round =>
    obtain ⟨k, rfl, hk, HKL, HS⟩ := hrel
    clear HS0
    by_cases hlt : k < 256
    · have hlt' : (k : Int) < 256 := by omega
      by_cases hle : zs.length < 14 + k + 1
      · have HC : Hid (Calls Tryd.prog 37 #[.pointer (some ⟨P, 0, none⟩), .int .i64 1] wr fun e w' => e = .returned (.tuple #[.int .u64 0, .int .i64 20]) ∧ w' = wr) := rnum_short P H (14 + k) 1 (zs.drop (14 + k)) wr HS.out.rd (by decide) (by decide) (by rw [List.length_drop]; omega)
        have HN : Hid (zs.length < 270) := by show _ < 270; omega
        have HAB : Hid (AB wr A (fun _ => 0)) := HS.out.res
        have HG : Hid (w.grownBy (wr.setRow A (cv fun _ => 0)) (some P)) := by
          have g2 := HS.out.gr
          have hwA := HS.out.wA
          exact ⟨g2.os, g2.tape, g2.output, by rw [size_row]; exact g2.size, fun b hb hne => (heap_row _ _ _ _ (by omega)).trans (g2.block b hb hne)⟩
        have HAB2 : Hid (AB (wr.setRow A (cv fun _ => 0)) A (fun _ => 0)) := HAB.out.put _
        clear hle HS
        go_wp2_with fail
        refine HC.out.mono ?_
        rintro e w3 ⟨rfl, rfl⟩
        clear HC
        go_wp2_with (first
          | refine wpList_build_arr0 rfl rfl ?_
          | refine wpList_store_arr rfl (.tmp 2) (.tmp 18) rfl HAB.out rfl rfl ?_)
        exact bodyPost_ret (results_arr_int rfl _ _ HAB2.out (v := .bool false) rfl rfl) rfl ⟨.inr ⟨HN.out, rfl⟩, HG.out⟩
      · have HC : Hid (Calls Tryd.prog 37 #[.pointer (some ⟨P, 0, none⟩), .int .i64 1] wr fun e w' => e = .returned (.tuple #[.int .u64 (vl zs (14 + k) 1 : Nat), .int .i64 0]) ∧ Rd w' P H (14 + k + 1) (zs.drop (14 + k + 1)) ∧ wr.grownBy w' (some P)) := by
          have h := rnum_ok P H (14 + k) 1 (zs.drop (14 + k)) wr HS.out.rd (by decide) (by decide) (by rw [List.length_drop]; have := HL.out; omega) (by rw [List.length_drop]; omega) (Rec.bs_drop HB.out _)
          rw [List.drop_drop] at h
          exact h
        have hv := vl_lt HB.out (14 + k) 1
        have HKL2 : Hid (14 + (k + 1) ≤ zs.length) := by show 14 + (k + 1) ≤ zs.length; omega
        clear hle
        have HV : Hid (rdCl zs k = ((vl zs (14 + k) 1 : Nat) : Int)) := rfl
        obtain ⟨v, hvv⟩ : ∃ v, vl zs (14 + k) 1 = v := ⟨_, rfl⟩
        rw [hvv] at HC hv HV
        clear hvv
        go_wp2_with fail
        refine HC.out.mono ?_
        rintro e w3 ⟨rfl, hr3, hg3⟩
        have HS3 : Hid (Rc w P H A zs (k + 1) (w3.setCell ⟨A + 1, k, none⟩ (.int .i64 (v : Nat)))) := by have h := HS.out.num hr3 hg3; rw [HV.out] at h; exact h
        have hAc := ((HS.out.arr.same (hg3.block (A + 1) HS.out.arr.lt (by have := HS.out.pA; simp; omega))).cell hlt)
        obtain ⟨hc1, hc2⟩ := hAc
        have hv2 : v < 256 := by omega
        clear hr3 hg3 HC HS hv
        go_wp2
        go_roundw
        case rel => exact ⟨k + 1, by go_num, by omega, HKL2, HS3⟩
        case measure => simp [intOf]; omega
    · have hge : ¬ (k : Int) < 256 := by omega
      have hke : k = 256 := by omega
      rw [hke] at HS HKL
      clear hke
      have HEC : Hid (cv (fun i => if i < 256 then rdCl zs i else 0) = cv (rdCl zs)) := cv_congr (fun i hi => by rw [if_pos hi])
      have HA1 : Hid (AB wr (A + 1) (rdCl zs)) := by have h := HS.out.arr; unfold AB at h; rw [HEC.out] at h; exact h
      have HAB : Hid (AB wr A (fun _ => 0)) := HS.out.res
      have HAB2 : Hid (AB (wr.setRow A (cv (rdCl zs))) A (rdCl zs)) := HAB.out.put _
      have HG : Hid (w.grownBy (wr.setRow A (cv (rdCl zs))) (some P)) := by
        have g2 := HS.out.gr
        have hwA := HS.out.wA
        exact ⟨g2.os, g2.tape, g2.output, by rw [size_row]; exact g2.size, fun b hb hne => (heap_row _ _ _ _ (by omega)).trans (g2.block b hb hne)⟩
      have HRD : Hid (Rd (wr.setRow A (cv (rdCl zs))) P H 270 (zs.drop 270)) := by
        have hpA := HS.out.pA
        have hr := HS.out.rd
        obtain ⟨a, r1, r2, r3, r4⟩ := hr
        refine ⟨a, (heap_row _ _ _ _ (by omega)).trans r1, r2, r3, fun j hj => ?_⟩
        have hHA : H ≠ A := by
          intro eH
          have := r4 j hj
          rw [eH] at this
          have hab := HAB.out
          unfold AB at hab
          simp only [World.cell?, hab] at this
          by_cases hi : 14 + 256 + j < 256
          · omega
          · rw [cv_out _ (by omega)] at this
            cases this
        rw [World.cell?_of_block (w := wr) (heap_row _ _ _ _ hHA)]
        exact r4 j hj
      clear HS
      go_wp2_with (first
        | refine wpList_load_arr rfl (.tmp 4) rfl HA1.out rfl ?_
        | refine wpList_store_arr rfl (.tmp 2) (.tmp 24) rfl HAB.out rfl rfl ?_)
      exact bodyPost_ret (results_arr_int rfl _ _ HAB2.out (v := .bool true) rfl rfl) rfl ⟨.inl ⟨by have := HKL.out; omega, rfl, HRD.out⟩, HG.out⟩
end Go.Proofs.YtdngileimmgdnaaDoor
