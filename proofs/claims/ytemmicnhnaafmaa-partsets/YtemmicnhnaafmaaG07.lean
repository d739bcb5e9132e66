/- part.split: the classes by a few sets. -/
import Derived.Test.YtemmicnhnaafmaaG06
namespace Go.Proofs.Ytemmicnhnaafmaa
open Go.RowKit Go.Maps

def Fs (ss : List Oct.S) (k : Nat) (p : Nat × Nat) : Option Value := ((List.range k).find? fun j => decide ((0, Pt.wordB ss j) = p)).map fun j => .int .i64 (Pt.cls (Pt.sameB ss) j : Nat)
theorem Fs_zero (ss : List Oct.S) : Fs ss 0 = fun _ => none := rfl
theorem Fs_succ (ss : List Oct.S) (k : Nat) (p : Nat × Nat) : Fs ss (k + 1) p = (Fs ss k p).or (if (0, Pt.wordB ss k) = p then some (.int .i64 (Pt.cls (Pt.sameB ss) k : Nat)) else none) := by
  unfold Fs
  rw [List.range_succ, List.find?_append]
  cases h : (List.range k).find? fun j => decide ((0, Pt.wordB ss j) = p)
  · by_cases e : (0, Pt.wordB ss k) = p <;> simp [e]
  · simp
theorem Fs_new {ss : List Oct.S} {k : Nat} (h : Pt.isNew (Pt.sameB ss) k = true) : Fs ss k (0, Pt.wordB ss k) = none := by
  unfold Fs
  rw [List.find?_eq_none.2]
  · rfl
  · intro j hj
    have hj : j < k := by simpa using hj
    have := Pt.isNew_iff.1 h j hj
    intro e
    have e : Pt.wordB ss j = Pt.wordB ss k := by simpa using e
    rw [(Pt.wordB_eq ss j k).1 e] at this
    cases this
theorem Fs_old {ss : List Oct.S} {k : Nat} (h : Pt.isNew (Pt.sameB ss) k = false) : Fs ss k (0, Pt.wordB ss k) = some (.int .i64 (Pt.cls (Pt.sameB ss) k : Nat)) := by
  obtain ⟨a, h1, h2, _, _⟩ := Pt.old_ex (Pt.sameB_eqv ss) h
  unfold Fs
  cases e : (List.range k).find? fun j => decide ((0, Pt.wordB ss j) = (0, Pt.wordB ss k)) with
  | none =>
    have := List.find?_eq_none.1 e a (by simpa using h1)
    rw [(Pt.wordB_eq ss a k).2 h2] at this
    simp at this
  | some j =>
    have := List.find?_some e
    have e2 : Pt.wordB ss j = Pt.wordB ss k := by simpa using this
    rw [Option.map_some, (Pt.cls_iff (Pt.sameB_eqv ss) j k).2 ((Pt.wordB_eq ss j k).1 e2)]
theorem Fs_put {ss : List Oct.S} {k : Nat} (h : Pt.isNew (Pt.sameB ss) k = true) : (fun y => if y = (0, Pt.wordB ss k) then some (.int .i64 (Pt.cnt (Pt.sameB ss) k : Nat)) else Fs ss k y) = Fs ss (k + 1) := by
  funext y
  rw [Fs_succ]
  by_cases e : y = (0, Pt.wordB ss k)
  · subst e
    rw [if_pos rfl, if_pos rfl, Fs_new h, Pt.cls_new (Pt.sameB_eqv ss) h]
    rfl
  · rw [if_neg e, if_neg (fun h => e h.symm)]
    cases Fs ss k y <;> rfl
theorem Fs_keep {ss : List Oct.S} {k : Nat} (h : Pt.isNew (Pt.sameB ss) k = false) : Fs ss k = Fs ss (k + 1) := by
  funext y
  rw [Fs_succ]
  by_cases e : (0, Pt.wordB ss k) = y
  · subst e
    rw [Fs_old h]
    rfl
  · rw [if_neg e]
    cases Fs ss k y <;> rfl
abbrev Mp (w : World) (B n : Nat) (F : Nat × Nat → Option Value) : Prop := MapA 66 kv2 good2 (.int .i64 0) w B n F
/-- the classes so far -/
def soFar (ss : List Oct.S) (k : Nat) (j : Nat) : Int := if j < k then (Pt.cls (Pt.sameB ss) j : Nat) else 0
theorem soFar_succ (ss : List Oct.S) (k : Nat) : (fun j => if j = k then ((Pt.cls (Pt.sameB ss) k : Nat) : Int) else soFar ss k j) = soFar ss (k + 1) := by
  funext j
  unfold soFar
  by_cases e : j = k
  · subst e; simp
  · rw [if_neg e]
    by_cases h : j < k
    · rw [if_pos h, if_pos (by omega)]
    · rw [if_neg h, if_neg (by omega)]
structure Sp (ss : List Oct.S) (w u : World) (A k : Nat) : Prop where
  arr : AB u A (soFar ss k)
  res : AB u (A + 1) (fun _ => 0)
  map : Mp u (A + 1 + 1) (Pt.cnt (Pt.sameB ss) k) (Fs ss k)
  low : Below A w u
theorem Sp.later {ss : List Oct.S} {w u u' : World} {A k : Nat} (h : Sp ss w u A k) (hb : Below u.heap.size u u') : Sp ss w u' A k :=
  ⟨h.arr.later hb, h.res.later hb, h.map.later hb, h.low.trans (hb.mono (by have := h.arr.lt; omega))⟩
def clsV (ss : List Oct.S) (j : Nat) : Int := (Pt.cls (Pt.sameB ss) j : Nat)
def SplitPost (ss : List Oct.S) (w : World) (e : Ending) (w' : World) : Prop := e = .returned (.tuple #[.agg (cv (clsV ss)), .int .i64 (Pt.cnt (Pt.sameB ss) 256 : Nat)]) ∧ Below w.heap.size w w'
set_option maxRecDepth 20000 in
set_option maxHeartbeats 2000000 in
theorem split_any (a : Option Addr) (n cap : Nat) (ss : List Oct.S) (w : World) (hn : n = ss.length) (hl : n ≤ 64) (hat : SetsAt w a ss) :
    Calls Try.prog 23 #[.agg (cv fun _ => 0), .slice a n cap] w (SplitPost ss w) := by
  have HA : Hid (SetsAt w a ss) := hat
  have HN : Hid (n = ss.length) := hn
  have hz := zeroArr
  have hmm := @run_makeMap Try.prog
  have k1 : Below w.heap.size w (w.alloc (.cells (cv fun _ => 0) 38)) := (Below.refl _ _).alloc (Nat.le_refl _) _
  have k2 : Below w.heap.size w ((w.alloc (.cells (cv fun _ => 0) 38)).alloc (.cells (cv fun _ => 0) 38)) := k1.alloc k1.size _
  have k3 := k2.alloc k2.size (.map #[] 0)
  have H0 : Hid (Sp ss w (((w.alloc (.cells (cv fun _ => 0) 38)).alloc (.cells (cv fun _ => 0) 38)).alloc (.map #[] 0)) w.heap.size 0) := by
    refine ⟨?_, ?_, ?_, k3⟩
    · have h := ((ab_new w (fun _ => 0)).later (w' := (w.alloc (.cells (cv fun _ => 0) 38)).alloc (.cells (cv fun _ => 0) 38)) ((Below.refl _ _).alloc (Nat.le_refl _) _)).later (w' := (((w.alloc (.cells (cv fun _ => 0) 38)).alloc (.cells (cv fun _ => 0) 38)).alloc (.map #[] 0))) ((Below.refl _ _).alloc (Nat.le_refl _) _)
      have e : soFar ss 0 = fun _ => 0 := by funext j; unfold soFar; rw [if_neg (by omega)]
      rw [e]
      exact h
    · have h := (ab_new (w.alloc (.cells (cv fun _ => 0) 38)) (fun _ => 0)).later (w' := (((w.alloc (.cells (cv fun _ => 0) 38)).alloc (.cells (cv fun _ => 0) 38)).alloc (.map #[] 0))) ((Below.refl _ _).alloc (Nat.le_refl _) _)
      simpa using h
    · have h := mapA_made ((w.alloc (.cells (cv fun _ => 0) 38)).alloc (.cells (cv fun _ => 0) 38)) 66 kv2 good2 (.int .i64 0)
      rw [Fs_zero]
      have e : ((w.alloc (.cells (cv fun _ => 0) 38)).alloc (.cells (cv fun _ => 0) 38)).heap.size = w.heap.size + 1 + 1 := by simp
      rw [e] at h
      exact h
  have hld := H0.out.arr
  have e0 : soFar ss 0 = fun _ => 0 := by funext j; unfold soFar; rw [if_neg (by omega)]
  rw [e0] at hld
  have HLD : Hid (AB (((w.alloc (.cells (cv fun _ => 0) 38)).alloc (.cells (cv fun _ => 0) 38)).alloc (.map #[] 0)) w.heap.size (fun _ => 0)) := hld
  clear k1 k2 k3 e0 hat hn hld
  go_enter Try.func23, Try.ntmps23
  go_wp2_with (refine wpList_load_arr rfl (.tmp 2) rfl HLD.out rfl ?_)
  obtain ⟨A, hA⟩ : ∃ A, w.heap.size = A := ⟨_, rfl⟩
  have HAW : Hid (w.heap.size = A) := hA
  rw [hA] at H0 ⊢
  clear hA HLD hmm
  go_loopw [14] (fun i u => ∃ k : Nat, k ≤ 256 ∧ i = .int .i64 (k : Nat) ∧ Hid (Sp ss w u A k)) (fun i _ => 256 - (intOf i).toNat)
  case atStart => exact ⟨0, by omega, rfl, H0⟩
  case round =>
    clear H0
    obtain ⟨k, hk, rfl, HS⟩ := hrel
    by_cases hlt : k < 256
    · have hlt' : (k : Int) < 256 := by omega
      have hidx : ∀ u, (Instr.index 38 (.agg (cv fun _ => 0)) (.int .i64 (k : Nat))).run Try.prog u = .ok (.int .i64 0) u := AB.index (fun _ => 0) hlt
      have hwk : IntKind.u8.wrap (k : Int) = (k : Int) := by rw [IntKind.wrap_u8]; omega
      go_wp2_with fail
      refine (which_any a n cap k ss _ HN.out hl (setsAt_later (by rw [HAW.out]; exact HS.out.low) HA.out) hlt).mono ?_
      rintro e w3 ⟨rfl, hb3⟩
      obtain ⟨x, hx⟩ : ∃ x, x = Pt.wordB ss k := ⟨_, rfl⟩
      have hx64 : x < 18446744073709551616 := by
        rw [hx]
        exact Nat.lt_of_lt_of_le (Pt.wordB_lt ss k) (by rw [← HN.out]; exact Nat.pow_le_pow_right (n := 2) (by decide) hl)
      rw [← hx]
      have HX : Hid (x = Pt.wordB ss k) := hx
      clear hx
      have k4 : Below wr.heap.size wr (w3.alloc (.cells #[.int .u64 0, .int .u64 (x : Nat)] 66)) := hb3.alloc hb3.size _
      have HS4 : Hid (Sp ss w (w3.alloc (.cells #[.int .u64 0, .int .u64 (x : Nat)] 66)) A k) := HS.out.later k4
      obtain ⟨w4, hw4⟩ : ∃ w4, w3.alloc (.cells #[.int .u64 0, .int .u64 (x : Nat)] 66) = w4 := ⟨_, rfl⟩
      obtain ⟨P, hP⟩ : ∃ P, w3.heap.size = P := ⟨_, rfl⟩
      have HNP : Hid (A + 1 + 1 < P ∧ P < w4.heap.size) := by
        have h1 := HS.out.map.lt
        have h2 := hb3.size
        refine ⟨by omega, ?_⟩
        rw [← hw4]
        simp
        omega
      have hn4 : w4.heap[P]? = some (.cells #[.int .u64 0, .int .u64 (x : Nat)] 66 (0, 0)) := by rw [← hw4, ← hP]; exact heap_alloc_new w3 _
      have c40 : w4.cell? ⟨P, 0, none⟩ = some (.int .u64 0) := by simp [World.cell?, hn4]
      have c41 : w4.cell? ⟨P, 1, none⟩ = some (.int .u64 (x : Nat)) := by simp [World.cell?, hn4]
      clear hn4
      rw [hw4] at HS4
      have hg2 : good2 (0, x) := ⟨(by decide : 0 < 18446744073709551616), hx64⟩
      have hlook0 := HS4.out.map.look law2 (mt := 64) (e := 3) (by kernel_rfl) (k := (0, x)) (by kernel_rfl) hg2 (key2 _ hg2)
      have hlen := HS4.out.map.len (mt := 64) (e := 3) (by kernel_rfl) 3
      clear HS k4 hb3
      cases hnew : Pt.isNew (Pt.sameB ss) k
      · have hlook : (Instr.lookup 64 (.map (some (A + 1 + 1))) (.agg #[.int .u64 0, .int .u64 (x : Nat)]) true).run Try.prog w4 = .ok (.tuple #[.int .i64 (Pt.cls (Pt.sameB ss) k : Nat), .bool true]) w4 := by
          have e := Fs_old hnew
          rw [← HX.out] at e
          rw [e] at hlook0
          exact hlook0
        obtain ⟨v, hv⟩ : ∃ v, v = Pt.cls (Pt.sameB ss) k := ⟨_, rfl⟩
        rw [← hv] at hlook
        obtain ⟨ca, fa⟩ := HS4.out.arr.cell hlt
        have HS5 : Hid (Sp ss w (w4.setCell ⟨A, k, none⟩ (.int .i64 (v : Nat))) A (k + 1)) := by
          have hs := HS4.out
          refine ⟨?_, ?_, ?_, ?_⟩
          · have h := hs.arr.set k (v : Nat)
            rw [hv, soFar_succ] at h
            rw [hv]
            exact h
          · exact hs.res.same (Below.heap_setCell w4 ⟨A, k, none⟩ _ (A + 1) (by simp))
          · have h := hs.map.same (Below.heap_setCell w4 ⟨A, k, none⟩ (.int .i64 (v : Nat)) (A + 1 + 1) (by simp; omega))
            rw [Fs_keep hnew] at h
            have e : Pt.cnt (Pt.sameB ss) (k + 1) = Pt.cnt (Pt.sameB ss) k := by show _ + _ = _; rw [if_neg (by rw [hnew]; decide)]; rfl
            rw [e]
            exact h
          · exact hs.low.setCell (Nat.le_refl _) _
        have HW4 : Hid (w3.alloc (.cells #[.int .u64 0, .int .u64 (x : Nat)] 66) = w4) := hw4
        have HP : Hid (w3.heap.size = P) := hP
        clear hnew hlook0 hv hlen HNP hw4 hP
        go_upto_region 6 with fail
        rw [HW4.out, HP.out]
        clear HW4 HP
        go_wp2
        go_roundw
        case rel => exact ⟨k + 1, by omega, by go_num, HS5⟩
        case measure => simp [intOf]; omega
      · have hlook : (Instr.lookup 64 (.map (some (A + 1 + 1))) (.agg #[.int .u64 0, .int .u64 (x : Nat)]) true).run Try.prog w4 = .ok (.tuple #[.int .i64 0, .bool false]) w4 := by
          have e := Fs_new hnew
          rw [← HX.out] at e
          rw [e] at hlook0
          exact hlook0
        have hno : Fs ss k (0, x) = none := by rw [HX.out]; exact Fs_new hnew
        have hcl : Pt.cnt (Pt.sameB ss) k ≤ k := Pt.cnt_le k
        have hml : 1000 < maxLen := by decide
        obtain ⟨w5, hrun, hm5, hgr, hsz⟩ := HS4.out.map.put law2 (mt := 64) (e := 3) (by kernel_rfl) (by omega) hg2 key2 kv2_inj hno (.int .i64 (Pt.cnt (Pt.sameB ss) k : Nat))
        rw [HX.out, Fs_put hnew] at hm5
        have hcn : Pt.cnt (Pt.sameB ss) (k + 1) = Pt.cnt (Pt.sameB ss) k + 1 := by show _ + _ = _; rw [if_pos hnew]
        rw [← hcn] at hm5
        have hrun : (Instr.mapUpdate 64 (.map (some (A + 1 + 1))) (.agg #[.int .u64 0, .int .u64 (x : Nat)]) (.int .i64 (Pt.cnt (Pt.sameB ss) k : Nat))).run Try.prog w4 = .ok () w5 := hrun
        have hcv : Pt.cls (Pt.sameB ss) k = Pt.cnt (Pt.sameB ss) k := Pt.cls_new (Pt.sameB_eqv ss) hnew
        have harr : AB w5 A (soFar ss k) := HS4.out.arr.same (hgr.block A HS4.out.arr.lt (by simp; omega))
        obtain ⟨v, hv⟩ : ∃ v, v = Pt.cnt (Pt.sameB ss) k := ⟨_, rfl⟩
        rw [← hv] at hrun hlen hcv
        obtain ⟨ca, fa⟩ := harr.cell hlt
        have HS5 : Hid (Sp ss w (w5.setCell ⟨A, k, none⟩ (.int .i64 (v : Nat))) A (k + 1)) := by
          have hs := HS4.out
          refine ⟨?_, ?_, ?_, ?_⟩
          · have h := harr.set k (v : Nat)
            rw [← hcv, soFar_succ] at h
            rw [← hcv]
            exact h
          · exact (hs.res.same (hgr.block (A + 1) hs.res.lt (by simp))).same (Below.heap_setCell w5 ⟨A, k, none⟩ _ (A + 1) (by simp))
          · exact hm5.same (Below.heap_setCell w5 ⟨A, k, none⟩ (.int .i64 (v : Nat)) (A + 1 + 1) (by simp; omega))
          · have h5 : Below A w w5 := ⟨hgr.os.trans hs.low.os, hgr.tape.trans hs.low.tape, hgr.output.trans hs.low.output, Nat.le_trans hs.low.size hgr.size, fun b hb => (hgr.block b (by have := hs.arr.lt; omega) (by simp; omega)).trans (hs.low.block b hb)⟩
            exact h5.setCell (Nat.le_refl _) _
        have HW4 : Hid (w3.alloc (.cells #[.int .u64 0, .int .u64 (x : Nat)] 66) = w4) := hw4
        have HP : Hid (w3.heap.size = P) := hP
        clear hnew hlook0 hv HNP hw4 hP hno hcl hml hm5 hcn hcv hgr hsz harr
        go_upto_region 6 with fail
        rw [HW4.out, HP.out]
        clear HW4 HP
        go_wp2
        go_roundw
        case rel => exact ⟨k + 1, by omega, by go_num, HS5⟩
        case measure => simp [intOf]; omega
    · have hge : ¬ (k : Int) < 256 := by omega
      obtain rfl : k = 256 := by omega
      have hlen := HS.out.map.len (mt := 64) (e := 3) (by kernel_rfl) 3
      obtain ⟨v, hv⟩ : ∃ v, v = Pt.cnt (Pt.sameB ss) 256 := ⟨_, rfl⟩
      rw [← hv] at hlen
      have HV : Hid (v = Pt.cnt (Pt.sameB ss) 256) := hv
      clear hv
      have hE : cv (soFar ss 256) = cv (clsV ss) := cv_congr (fun i hi => by unfold soFar clsV; rw [if_pos hi])
      have HR : Hid (AB (wr.setRow (A + 1) (cv (clsV ss))) (A + 1) (clsV ss)) := HS.out.res.put _
      have HL : Hid (Below A w (wr.setRow (A + 1) (cv (clsV ss)))) := below_row HS.out.low (by omega) _
      have HAR : Hid (AB wr A (clsV ss)) := by
        have h := HS.out.arr
        show wr.heap[A]? = _
        rw [← hE]
        exact h
      have HRS := HS.out.res
      clear hE
      go_wp2_with (first | refine wpList_load_arr rfl (.tmp 2) rfl HAR.out rfl ?_ | refine wpList_store_arr rfl (.tmp 4) (.tmp 42) rfl HRS rfl rfl ?_)
      refine bodyPost_ret (results_arr_int rfl _ _ HR.out (v := .int .i64 (v : Nat)) rfl rfl) rfl ?_
      refine ⟨?_, by rw [HAW.out]; exact HL.out⟩
      rw [← HV.out]
end Go.Proofs.Ytemmicnhnaafmaa
