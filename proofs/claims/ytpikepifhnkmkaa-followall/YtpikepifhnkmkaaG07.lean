/- simfs's inodes: piece. -/
import Derived.Test.YtpikepifhnkmkaaG06
namespace Go.Proofs.Ytpikepifhnkmkaa
open Go.RowKit Go.Maps Sf
attribute [local go_sem ↓] Go.wp_at_zero Go.wp_at_succ

/-- what Read tells -/
def Ino.cut (f : Ino) (o s : Nat) : List UInt8 := (f.bs.drop o).take s
theorem LAt.drop {w : World} {V : Value} {xs : List Value} {b off n c k : Nat} (h : LAt w V xs) (e : V = .slice (some ⟨b, off, none⟩) n c) (hk : k ≤ n) : LAt w (.slice (some ⟨b, off + k, none⟩) (n - k) (c - k)) (xs.drop k) := by
  obtain ⟨a', c', e', h1, h2, h3⟩ := h
  rw [e] at e'
  cases e'
  refine ⟨_, _, by rw [List.length_drop], by rw [List.length_drop]; omega, by omega, ?_⟩
  rcases h3 with rfl | ⟨b', off', ea, hc⟩
  · exact .inl (by simp)
  · cases ea
    refine .inr ⟨b, off + k, rfl, fun j v hj => ?_⟩
    rw [List.getElem?_drop] at hj
    rw [Nat.add_assoc]
    exact hc _ v hj
theorem lat_at {w : World} {g lf vc M T x : Nat} {xs : List Value} (h : LAt w (.slice (some ⟨g, 0, none⟩) lf vc) xs) (hM : M ≤ lf) (hx : lf - M = 0 ∨ x = M) (hT : T ≤ lf - M) : LAt w (.slice (some ⟨g, x, none⟩) T (vc - M)) ((xs.drop M).take T) := by
  rcases hx with hx | rfl
  · obtain ⟨a', c', e', h1, h2, h3⟩ := h
    cases e'
    have hl : xs.drop M = [] := List.drop_eq_nil_of_le (by omega)
    rw [hl, List.take_nil]
    exact ⟨_, _, by rw [show T = ([] : List Value).length by simp; omega], by simp, by omega, .inl rfl⟩
  · have := h.drop (k := x) rfl hM
    rw [Nat.zero_add] at this
    exact this.take rfl hT
theorem nil_below {w u v : World} (h : Below w.heap.size w u) (hg : u.grownBy v (Value.slice none 0 0).ownBlock) : Below w.heap.size w v :=
  below_step h ⟨hg.os, hg.tape, hg.output, hg.size, fun k hk => hg.block k hk (fun e => by cases e)⟩
set_option maxRecDepth 8000 in
set_option maxHeartbeats 800000 in
theorem piece_any {w : World} {a n : Nat} {f : Ino} {V : Value} (h : InoAt w a n f V) (hl : f.bs.length ≤ 1048576) {o s : Nat} (ho : (o : Int) ≤ 9223372036854775807) (hs : (s : Int) ≤ 9223372036854775807) :
    Calls Try.prog 52 #[.pointer (some ⟨a, 0, none⟩), .int .i64 (o : Nat), .int .i64 (s : Nat)] w fun e w' => ∃ V', e = .returned V' ∧ w'.ownsRow w.heap.size 5 1 V' (Ino.cut f o s).length (uv (Ino.cut f o s)) ∧ Below w.heap.size w w' := by
  have HV : Hid (OwnB w V f.bs) := h.v
  obtain ⟨va, vc, e0, hv1, hv2⟩ := h.v.form
  obtain ⟨c0, c1, c2, c3, c4⟩ := h.cells
  obtain ⟨lf, hlf⟩ : ∃ lf, f.bs.length = lf := ⟨_, rfl⟩
  have HLL : Hid (f.bs.length = lf) := hlf
  subst e0
  rw [hlf] at c3 hv1 hl HV
  clear c0 c1 c2 c4 hlf
  rcases h.v.2 with ⟨e, h0⟩ | ⟨g, cap, cur, e, _⟩
  · obtain ⟨rfl, hn, rfl⟩ := Value.slice.inj e
    rw [HLL.out] at hn
    subst hn
    clear h e h0 HV
    have HCT : Hid (Ino.cut f o s = []) := by show _ = _; unfold Ino.cut; rw [List.eq_nil_of_length_eq_zero HLL.out]; simp
    rcases Nat.eq_zero_or_pos o with rfl | hp
    · rcases Nat.eq_zero_or_pos s with rfl | hq
      · have m0 := hl
        have HTL : Hid (([] : List Value).length = 0) := rfl
        go_enter Try.func52, Try.ntmps52
        go_wp2_with fail
        go_quiet (fail)
        have HK2 : Hid (Below w.heap.size w (w.drewN nq)) := ⟨rfl, rfl, rfl, Nat.le_refl _, fun _ _ => rfl⟩
        have HY : Hid (LAt (w.drewN nq) (.slice none 0 0) ([])) := lat_nil _
        go_wp2_with (refine wpList_append_lat rfl (.const (.slice none 0 0)) (.tmp 25) rfl (.int .u8 0) 1 (by kernel_rfl) infB rfl w.heap.size _ 0 [] rfl (owns_nil _ w.heap.size 5) _ _ rfl HY.out (fun u hu => by cases hu) (by rw [HTL.out]; unfold maxLen; omega) (by rw [HTL.out]; omega) HK2.out.size ?_; intro V' w' ho hgr hnl hh; rw [Nat.zero_add, List.nil_append, List.length_nil] at ho; have HKE : Hid (Below w.heap.size w w') := nil_below HK2.out hgr; clear hnl hgr hh)
        go_ret
        exact ⟨_, rfl, by rw [HCT.out]; exact ho, HKE.out⟩
      · have m2 : (0 : Int) < (s : Int) := by omega
        have HTL : Hid (([] : List Value).length = 0) := rfl
        go_enter Try.func52, Try.ntmps52
        go_wp2_with fail
        go_quiet (fail)
        have HK2 : Hid (Below w.heap.size w (w.drewN nq)) := ⟨rfl, rfl, rfl, Nat.le_refl _, fun _ _ => rfl⟩
        have HY : Hid (LAt (w.drewN nq) (.slice none 0 0) ([])) := lat_nil _
        go_wp2_with (refine wpList_append_lat rfl (.const (.slice none 0 0)) (.tmp 25) rfl (.int .u8 0) 1 (by kernel_rfl) infB rfl w.heap.size _ 0 [] rfl (owns_nil _ w.heap.size 5) _ _ rfl HY.out (fun u hu => by cases hu) (by rw [HTL.out]; unfold maxLen; omega) (by rw [HTL.out]; omega) HK2.out.size ?_; intro V' w' ho hgr hnl hh; rw [Nat.zero_add, List.nil_append, List.length_nil] at ho; have HKE : Hid (Below w.heap.size w w') := nil_below HK2.out hgr; clear hnl hgr hh)
        go_ret
        exact ⟨_, rfl, by rw [HCT.out]; exact ho, HKE.out⟩
    · rcases Nat.eq_zero_or_pos s with rfl | hq
      · have m1 : (0 : Int) < (o : Int) := by omega
        have HTL : Hid (([] : List Value).length = 0) := rfl
        go_enter Try.func52, Try.ntmps52
        go_wp2_with fail
        go_quiet (fail)
        have HK2 : Hid (Below w.heap.size w (w.drewN nq)) := ⟨rfl, rfl, rfl, Nat.le_refl _, fun _ _ => rfl⟩
        have HY : Hid (LAt (w.drewN nq) (.slice none 0 0) ([])) := lat_nil _
        go_wp2_with (refine wpList_append_lat rfl (.const (.slice none 0 0)) (.tmp 25) rfl (.int .u8 0) 1 (by kernel_rfl) infB rfl w.heap.size _ 0 [] rfl (owns_nil _ w.heap.size 5) _ _ rfl HY.out (fun u hu => by cases hu) (by rw [HTL.out]; unfold maxLen; omega) (by rw [HTL.out]; omega) HK2.out.size ?_; intro V' w' ho hgr hnl hh; rw [Nat.zero_add, List.nil_append, List.length_nil] at ho; have HKE : Hid (Below w.heap.size w w') := nil_below HK2.out hgr; clear hnl hgr hh)
        go_ret
        exact ⟨_, rfl, by rw [HCT.out]; exact ho, HKE.out⟩
      · have m1 : (0 : Int) < (o : Int) := by omega
        have m2 : (0 : Int) < (s : Int) := by omega
        have HTL : Hid (([] : List Value).length = 0) := rfl
        go_enter Try.func52, Try.ntmps52
        go_wp2_with fail
        go_quiet (fail)
        have HK2 : Hid (Below w.heap.size w (w.drewN nq)) := ⟨rfl, rfl, rfl, Nat.le_refl _, fun _ _ => rfl⟩
        have HY : Hid (LAt (w.drewN nq) (.slice none 0 0) ([])) := lat_nil _
        go_wp2_with (refine wpList_append_lat rfl (.const (.slice none 0 0)) (.tmp 25) rfl (.int .u8 0) 1 (by kernel_rfl) infB rfl w.heap.size _ 0 [] rfl (owns_nil _ w.heap.size 5) _ _ rfl HY.out (fun u hu => by cases hu) (by rw [HTL.out]; unfold maxLen; omega) (by rw [HTL.out]; omega) HK2.out.size ?_; intro V' w' ho hgr hnl hh; rw [Nat.zero_add, List.nil_append, List.length_nil] at ho; have HKE : Hid (Below w.heap.size w w') := nil_below HK2.out hgr; clear hnl hgr hh)
        go_ret
        exact ⟨_, rfl, by rw [HCT.out]; exact ho, HKE.out⟩
  obtain rfl : va = some ⟨g, 0, none⟩ := (Value.slice.inj e).1
  clear h e
  rcases Nat.lt_or_ge lf o with hp | hp
  · have HCT : Hid (Ino.cut f o s = (f.bs.drop lf).take 0) := by show _ = _; unfold Ino.cut; rw [List.drop_eq_nil_of_le (by rw [HLL.out]; omega), List.drop_eq_nil_of_le (by rw [HLL.out]; omega), List.take_nil, List.take_nil]
    rcases Nat.eq_zero_or_pos s with rfl | hq
    · have m1 : (lf : Int) < (o : Int) := by omega
      have HTL : Hid ((((uv f.bs).drop (lf)).take (0)).length = 0) := by show _ = _; rw [List.length_take, List.length_drop, uv_len, HLL.out]; omega
      obtain ⟨x, hif, hx⟩ : ∃ x, (if vc = lf then some (⟨g, 0, none⟩ : Addr) else some ⟨g, lf, none⟩) = some ⟨g, x, none⟩ ∧ (lf - (lf) = 0 ∨ x = lf) := by
        by_cases e : vc = lf
        · exact ⟨0, if_pos e, by omega⟩
        · exact ⟨lf, if_neg e, .inr rfl⟩
      go_enter Try.func52, Try.ntmps52
      go_wp2_with fail
      go_quiet (fail)
      have HK2 : Hid (Below w.heap.size w (w.drewN nq)) := ⟨rfl, rfl, rfl, Nat.le_refl _, fun _ _ => rfl⟩
      have HY : Hid (LAt (w.drewN nq) (.slice (some ⟨g, x, none⟩) (0) (vc - (lf))) (((uv f.bs).drop (lf)).take (0))) := lat_at ((owns_lat HV.out).later HK2.out) (by omega) (by omega) (by omega)
      go_wp2_with (refine wpList_append_lat rfl (.const (.slice none 0 0)) (.tmp 25) rfl (.int .u8 0) 1 (by kernel_rfl) infB rfl w.heap.size _ 0 [] rfl (owns_nil _ w.heap.size 5) _ _ rfl HY.out (fun u hu => uv_one f.bs u (List.mem_of_mem_drop (List.mem_of_mem_take hu))) (by rw [HTL.out]; unfold maxLen; omega) (by rw [HTL.out]; omega) HK2.out.size ?_; intro V' w' ho hgr hnl hh; rw [Nat.zero_add, List.nil_append, ← uv_drop, ← uv_take, uv_len, ← HCT.out] at ho; have HKE : Hid (Below w.heap.size w w') := nil_below HK2.out hgr; clear hnl hgr hh)
      go_ret
      exact ⟨_, rfl, ho, HKE.out⟩
    · have m1 : (lf : Int) < (o : Int) := by omega
      have m2 : (0 : Int) < (s : Int) := by omega
      have HTL : Hid ((((uv f.bs).drop (lf)).take (0)).length = 0) := by show _ = _; rw [List.length_take, List.length_drop, uv_len, HLL.out]; omega
      obtain ⟨x, hif, hx⟩ : ∃ x, (if vc = lf then some (⟨g, 0, none⟩ : Addr) else some ⟨g, lf, none⟩) = some ⟨g, x, none⟩ ∧ (lf - (lf) = 0 ∨ x = lf) := by
        by_cases e : vc = lf
        · exact ⟨0, if_pos e, by omega⟩
        · exact ⟨lf, if_neg e, .inr rfl⟩
      go_enter Try.func52, Try.ntmps52
      go_wp2_with fail
      go_quiet (fail)
      have HK2 : Hid (Below w.heap.size w (w.drewN nq)) := ⟨rfl, rfl, rfl, Nat.le_refl _, fun _ _ => rfl⟩
      have HY : Hid (LAt (w.drewN nq) (.slice (some ⟨g, x, none⟩) (0) (vc - (lf))) (((uv f.bs).drop (lf)).take (0))) := lat_at ((owns_lat HV.out).later HK2.out) (by omega) (by omega) (by omega)
      go_wp2_with (refine wpList_append_lat rfl (.const (.slice none 0 0)) (.tmp 25) rfl (.int .u8 0) 1 (by kernel_rfl) infB rfl w.heap.size _ 0 [] rfl (owns_nil _ w.heap.size 5) _ _ rfl HY.out (fun u hu => uv_one f.bs u (List.mem_of_mem_drop (List.mem_of_mem_take hu))) (by rw [HTL.out]; unfold maxLen; omega) (by rw [HTL.out]; omega) HK2.out.size ?_; intro V' w' ho hgr hnl hh; rw [Nat.zero_add, List.nil_append, ← uv_drop, ← uv_take, uv_len, ← HCT.out] at ho; have HKE : Hid (Below w.heap.size w w') := nil_below HK2.out hgr; clear hnl hgr hh)
      go_ret
      exact ⟨_, rfl, ho, HKE.out⟩
  · obtain ⟨r, rfl⟩ : ∃ r, lf = o + r := ⟨lf - o, by omega⟩
    rcases Nat.lt_or_ge r s with hq | hq
    · have m1 : ¬ ((o + r : Nat) : Int) < (o : Int) := by omega
      have m2 : (r : Int) < (s : Int) := by omega
      have HCT : Hid (Ino.cut f o s = (f.bs.drop (o)).take (r)) := by
        show _ = _
        unfold Ino.cut
        rw [List.take_of_length_le (by rw [List.length_drop, HLL.out]; omega), List.take_of_length_le (by rw [List.length_drop, HLL.out]; omega)]
      have HTL : Hid ((((uv f.bs).drop (o)).take (r)).length = r) := by show _ = _; rw [List.length_take, List.length_drop, uv_len, HLL.out]; omega
      obtain ⟨x, hif, hx⟩ : ∃ x, (if vc = o then some (⟨g, 0, none⟩ : Addr) else some ⟨g, o, none⟩) = some ⟨g, x, none⟩ ∧ ((o + r) - (o) = 0 ∨ x = o) := by
        by_cases e : vc = o
        · exact ⟨0, if_pos e, by omega⟩
        · exact ⟨o, if_neg e, .inr rfl⟩
      go_enter Try.func52, Try.ntmps52
      go_wp2_with fail
      go_quiet (fail)
      have HK2 : Hid (Below w.heap.size w (w.drewN nq)) := ⟨rfl, rfl, rfl, Nat.le_refl _, fun _ _ => rfl⟩
      have HY : Hid (LAt (w.drewN nq) (.slice (some ⟨g, x, none⟩) (r) (vc - (o))) (((uv f.bs).drop (o)).take (r))) := lat_at ((owns_lat HV.out).later HK2.out) (by omega) (by omega) (by omega)
      go_wp2_with (refine wpList_append_lat rfl (.const (.slice none 0 0)) (.tmp 25) rfl (.int .u8 0) 1 (by kernel_rfl) infB rfl w.heap.size _ 0 [] rfl (owns_nil _ w.heap.size 5) _ _ rfl HY.out (fun u hu => uv_one f.bs u (List.mem_of_mem_drop (List.mem_of_mem_take hu))) (by rw [HTL.out]; unfold maxLen; omega) (by rw [HTL.out]; omega) HK2.out.size ?_; intro V' w' ho hgr hnl hh; rw [Nat.zero_add, List.nil_append, ← uv_drop, ← uv_take, uv_len, ← HCT.out] at ho; have HKE : Hid (Below w.heap.size w w') := nil_below HK2.out hgr; clear hnl hgr hh)
      go_ret
      exact ⟨_, rfl, ho, HKE.out⟩
    · have m1 : ¬ ((o + r : Nat) : Int) < (o : Int) := by omega
      have m2 : ¬ (r : Int) < (s : Int) := by omega
      have HCT : Hid (Ino.cut f o s = (f.bs.drop (o)).take (s)) := by
        show _ = _
        unfold Ino.cut
        rfl
      have HTL : Hid ((((uv f.bs).drop (o)).take (s)).length = s) := by show _ = _; rw [List.length_take, List.length_drop, uv_len, HLL.out]; omega
      obtain ⟨x, hif, hx⟩ : ∃ x, (if vc = o then some (⟨g, 0, none⟩ : Addr) else some ⟨g, o, none⟩) = some ⟨g, x, none⟩ ∧ ((o + r) - (o) = 0 ∨ x = o) := by
        by_cases e : vc = o
        · exact ⟨0, if_pos e, by omega⟩
        · exact ⟨o, if_neg e, .inr rfl⟩
      go_enter Try.func52, Try.ntmps52
      go_wp2_with fail
      go_quiet (fail)
      have HK2 : Hid (Below w.heap.size w (w.drewN nq)) := ⟨rfl, rfl, rfl, Nat.le_refl _, fun _ _ => rfl⟩
      have HY : Hid (LAt (w.drewN nq) (.slice (some ⟨g, x, none⟩) (s) (vc - (o))) (((uv f.bs).drop (o)).take (s))) := lat_at ((owns_lat HV.out).later HK2.out) (by omega) (by omega) (by omega)
      go_wp2_with (refine wpList_append_lat rfl (.const (.slice none 0 0)) (.tmp 25) rfl (.int .u8 0) 1 (by kernel_rfl) infB rfl w.heap.size _ 0 [] rfl (owns_nil _ w.heap.size 5) _ _ rfl HY.out (fun u hu => uv_one f.bs u (List.mem_of_mem_drop (List.mem_of_mem_take hu))) (by rw [HTL.out]; unfold maxLen; omega) (by rw [HTL.out]; omega) HK2.out.size ?_; intro V' w' ho hgr hnl hh; rw [Nat.zero_add, List.nil_append, ← uv_drop, ← uv_take, uv_len, ← HCT.out] at ho; have HKE : Hid (Below w.heap.size w w') := nil_below HK2.out hgr; clear hnl hgr hh)
      go_ret
      exact ⟨_, rfl, ho, HKE.out⟩
end Go.Proofs.Ytpikepifhnkmkaa
