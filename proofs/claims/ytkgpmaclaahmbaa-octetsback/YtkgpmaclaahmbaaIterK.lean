/- The iterator of octets.Spans, for every loop body that keeps the captured set. -/
import Derived.Test.YtkgpmaclaahmbaaIter
namespace Go.Proofs.Ytkgpmaclaahmbaa
open Go.RowKit Go.Shelf
attribute [local go_sem] Oper.semAt_some
set_option maxRecDepth 100000 in
set_option maxHeartbeats 4000000 in
theorem spans1_inK (n : Nat) (hn : 1 ≤ n) (l A : Nat) (s : Oct.S) (Kp : World → World → Prop) (hKS : ∀ W W', Kp W W' → SB W A s → SB W' A s) (J Jx : List Row → World → Prop)
    (hY : ∀ pre x W1, J pre W1 → pre.length < 256 → YieldAt Fence.wide (n - 1) Try.prog l (encs x) W1 fun e W' =>
      (e = .returned (.bool true) ∧ J (pre ++ [x]) W' ∧ Kp W1 W') ∨ (e = .returned (.bool false) ∧ Jx (pre ++ [x]) W'))
    (W : World) (hJ : AbidesFrom W.heap.size J) (hS : SB W A s) (h0 : J [] W) :
    CallsIn Fence.wide n Try.prog 28 #[.func (.yield l) #[] #[], .pointer (some ⟨A, 0, none⟩)] W fun e W' => (∃ v, e = .returned v) ∧
      ((∃ ys, ys = rows s 256 ∧ J ys W') ∨ (∃ pre, (∃ k, k ≤ 256 ∧ pre = rows s k) ∧ Jx pre W')) := by
  have HS0 : Hid (SB W A s) := hS
  have H0 : Hid (J [] W) := h0
  have HJ : Hid (AbidesFrom W.heap.size J) := hJ
  have HY : Hid (∀ pre x W1, J pre W1 → pre.length < 256 → YieldAt Fence.wide (n - 1) Try.prog l (encs x) W1 fun e W' =>
      (e = .returned (.bool true) ∧ J (pre ++ [x]) W' ∧ Kp W1 W') ∨ (e = .returned (.bool false) ∧ Jx (pre ++ [x]) W')) := hY
  clear hS h0 hJ hY
  refine callsIn_of_wp Try.func28 rfl trivial ?_ rfl
  simp only [Try.ntmps28, List.size_toArray, List.length_cons, List.length_nil, Nat.reduceAdd, Nat.reduceSub, Array.replicate_succ, Array.replicate_zero, List.push_toArray, List.append_toArray, List.nil_append, List.cons_append]
  gi_wp2
  gi_loopw [3, 6] (fun f i wr => ∃ k : Nat, k ≤ 256 ∧ i = .int .i64 k ∧ f = .int .u8 ((frm s k).val : Nat) ∧ Hid (SB wr A s) ∧ Hid (J (rows s k) wr))
    (fun _ i _ => 256 - (intOf i).toNat)
  case atStart => exact ⟨0, Nat.zero_le _, rfl, rfl, HS0, H0⟩
  case round =>
    obtain ⟨k, hk, rfl, rfl, hs, hj⟩ := hrel
    by_cases hlt : k < 256
    · obtain ⟨c0, c1, c2, c3⟩ := hs.out.cells
      gi_wp2
      refine ⟨trivial, ?_⟩
      refine (callsIn_wide.2 (begins_any s k _ hlt)).mono ?_
      rintro e w1 ⟨rfl, k1⟩
      have HS1 : Hid (SB w1 A s) := hs.out.later k1
      have HJ1 : Hid (J (rows s k) w1) := HJ.out _ wr w1 none hj.out (below_grown k1) (fun r e => by cases e)
      have HL : Hid ((rows s k).length < 256) := by have := rows_length s k; show _ < _; omega
      have hfb : (fb k).val = k := Nat.mod_eq_of_lt hlt
      have HFB : Hid ((fb k).val = k) := hfb
      have HSUC : Hid (rows s (k + 1) = rows s k ++ (if ends s k then [(frm s (k + 1), fb k)] else [])) := by show _ = _; rfl
      clear k1 hs hj c0 c1 c2 c3 hfb
      obtain ⟨c0, c1, c2, c3⟩ := HS1.out.cells
      cases hbg : begins s k with
      | true =>
        have HF : Hid ((frm s (k + 1)).val = k) := by
          show _ = _
          simp only [frm, hbg]
          exact HFB.out
        clear hbg
        gi_wp2
        refine ⟨trivial, ?_⟩
        refine (callsIn_wide.2 (ends_any s k _ hlt)).mono ?_
        rintro e w2 ⟨rfl, k2⟩
        have HS2 : Hid (SB w2 A s) := HS1.out.later k2
        have HJ2 : Hid (J (rows s k) w2) := HJ.out _ w1 w2 none HJ1.out (below_grown k2) (fun r e => by cases e)
        clear k2 HS1 HJ1 c0 c1 c2 c3
        cases hen : ends s k with
        | true =>
          have HR2 : Hid (rows s (k + 1) = rows s k ++ [(frm s (k + 1), fb k)]) := by show _ = _; rw [HSUC.out, hen]; rfl
          clear hen
          obtain ⟨fn, tmps, assign, body, hy, hR⟩ := HY.out _ (frm s (k + 1), fb k) w2 HJ2.out HL.out
          dsimp only [encs] at hy
          rw [HF.out, HFB.out] at hy
          gi_wp2
          refine hR.mono ?_
          rintro e w3 (⟨rfl, hJ3, hk3⟩ | ⟨rfl, hJx3⟩)
          · have HS3 : Hid (SB w3 A s) := hKS _ _ hk3 HS2.out
            have HJ3 : Hid (J (rows s (k + 1)) w3) := by rw [HR2.out]; exact hJ3
            clear hJ3 hk3 hy hR
            gi_wp2
            go_roundw
            case rel => exact ⟨k + 1, by omega, by go_num, by rw [HF.out], HS3, HJ3⟩
            case measure => simp [intOf]; omega
          · gi_wp2
            refine bodyPost_ret (results_none rfl _ _ _) rfl ?_
            exact ⟨⟨_, rfl⟩, .inr ⟨_, ⟨k + 1, by omega, HR2.out.symm⟩, hJx3⟩⟩
        | false =>
          have HR2 : Hid (rows s (k + 1) = rows s k) := by show _ = _; rw [HSUC.out, hen]; simp
          clear hen
          gi_wp2
          refine ⟨fun _ h => (by cases h), ?_⟩
          gi_wp2
          go_roundw
          case rel => exact ⟨k + 1, by omega, by go_num, by rw [HF.out], HS2, by rw [HR2.out]; exact HJ2⟩
          case measure => simp [intOf]; omega
      | false =>
        have HF : Hid ((frm s (k + 1)).val = (frm s k).val) := by
          show _ = _
          simp only [frm, hbg]
          rfl
        clear hbg
        gi_wp2
        refine ⟨trivial, ?_⟩
        refine (callsIn_wide.2 (ends_any s k _ hlt)).mono ?_
        rintro e w2 ⟨rfl, k2⟩
        have HS2 : Hid (SB w2 A s) := HS1.out.later k2
        have HJ2 : Hid (J (rows s k) w2) := HJ.out _ w1 w2 none HJ1.out (below_grown k2) (fun r e => by cases e)
        clear k2 HS1 HJ1 c0 c1 c2 c3
        cases hen : ends s k with
        | true =>
          have HR2 : Hid (rows s (k + 1) = rows s k ++ [(frm s (k + 1), fb k)]) := by show _ = _; rw [HSUC.out, hen]; rfl
          clear hen
          obtain ⟨fn, tmps, assign, body, hy, hR⟩ := HY.out _ (frm s (k + 1), fb k) w2 HJ2.out HL.out
          dsimp only [encs] at hy
          rw [HF.out, HFB.out] at hy
          gi_wp2
          refine hR.mono ?_
          rintro e w3 (⟨rfl, hJ3, hk3⟩ | ⟨rfl, hJx3⟩)
          · have HS3 : Hid (SB w3 A s) := hKS _ _ hk3 HS2.out
            have HJ3 : Hid (J (rows s (k + 1)) w3) := by rw [HR2.out]; exact hJ3
            clear hJ3 hk3 hy hR
            gi_wp2
            go_roundw
            case rel => exact ⟨k + 1, by omega, by go_num, by rw [HF.out], HS3, HJ3⟩
            case measure => simp [intOf]; omega
          · gi_wp2
            refine bodyPost_ret (results_none rfl _ _ _) rfl ?_
            exact ⟨⟨_, rfl⟩, .inr ⟨_, ⟨k + 1, by omega, HR2.out.symm⟩, hJx3⟩⟩
        | false =>
          have HR2 : Hid (rows s (k + 1) = rows s k) := by show _ = _; rw [HSUC.out, hen]; simp
          clear hen
          gi_wp2
          refine ⟨fun _ h => (by cases h), ?_⟩
          gi_wp2
          go_roundw
          case rel => exact ⟨k + 1, by omega, by go_num, by rw [HF.out], HS2, by rw [HR2.out]; exact HJ2⟩
          case measure => simp [intOf]; omega
    · have HK : Hid (k = 256) := by show k = 256; omega
      gi_wp2
      go_end0
      exact ⟨⟨_, rfl⟩, .inl ⟨_, rfl, by rw [← HK.out]; exact hj.out⟩⟩
/-- THE ITERATOR's CONTRACT, where the bodies keep the captured set. -/
theorem spans_stopsK (n : Nat) (hn : 1 ≤ n) (A : Nat) (s : Oct.S) (w : World) (Kp : World → World → Prop) (hKS : ∀ W W', Kp W W' → SB W A s → SB W' A s) (hS : SB w A s) :
    SeqStopsK Fence.wide n Try.prog 28 #[.pointer (some ⟨A, 0, none⟩)] encs Kp (fun xs => xs = rows s 256) (fun pre => ∃ k, k ≤ 256 ∧ pre = rows s k) 256 w :=
  fun l J Jx W hW hJ _ hY h0 => spans1_inK n hn l A s Kp hKS J Jx hY W hJ (hS.later hW) h0
end Go.Proofs.Ytkgpmaclaahmbaa
