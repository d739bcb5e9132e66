/- (*simfs.Disk).rising. -/
import Derived.Test.YtpikepifhnkmkaaG24
namespace Go.Proofs.Ytpikepifhnkmkaa
open Go.RowKit Go.Maps Sf
attribute [local go_sem ↓] Go.wp_at_zero Go.wp_at_succ

theorem own_low {w : World} {b b' : Nat} {e : TypeId} {V : Value} {n : Nat} {xs : List Value} (h : w.ownsRow b e 1 V n xs) (hb : b' ≤ b) : w.ownsRow b' e 1 V n xs := by
  refine ⟨h.1, ?_⟩
  rcases h.2 with h2 | ⟨g, cap, cur, e, hg, h3⟩
  · exact .inl h2
  · exact .inr ⟨g, cap, cur, e, by omega, h3⟩
set_option maxRecDepth 8000 in
set_option maxHeartbeats 1000000 in
theorem rising_crash {P : Nat → Prop} {w : World} {B K : Nat} {d : Dk} {L : Lay} (hW : Wf d K) (hK : K ≤ 1000000) (hL : DkAt P w B d L) (Bk Bp : Nat) (I : Nat → World → Prop) (h0 : ∀ u, Below w.heap.size w u → I 0 u)
    (hrd : ∀ i n u, (keysUp d)[i]? = some n → I i u → u.cell? ⟨B, 1, none⟩ = some (.map (some L.mi)) ∧ (Instr.lookup 59 (.map (some L.mi)) (.int .i64 (n : Nat)) false).run Try.prog u = .ok (.pointer (some ⟨L.ai n, 0, none⟩)) u)
    (hst : ∀ i n u, (keysUp d)[i]? = some n → I i u → w.heap.size ≤ u.heap.size → Calls Try.prog 49 #[.pointer (some ⟨L.ai n, 0, none⟩), .pointer (some ⟨Bk, 0, none⟩), .pointer (some ⟨Bp, 0, none⟩)] u fun e u' => e = .returned (.tuple #[]) ∧ I (i + 1) u' ∧ u.heap.size ≤ u'.heap.size ∧ ∀ k, w.heap.size ≤ k → k < u.heap.size → u'.heap[k]? = u.heap[k]?) :
    Calls Try.prog 48 #[.pointer (some ⟨B, 0, none⟩), .func (.func 49) #[] #[.pointer (some ⟨Bk, 0, none⟩), .pointer (some ⟨Bp, 0, none⟩)]] w fun e w' => e = .returned (.tuple #[]) ∧ I (keysUp d).length w' := by
  obtain ⟨c0, c1, c2⟩ := hL.cells
  obtain ⟨D, hD, hDm, hDF⟩ := hL.im
  have hperm := keys_perm (L := L) hW hK hD (fun k hk => (hDF k hk).1)
  have hsz : Maps.size D ≤ 1000001 := by
    have e1 : Maps.size D = (intKeys D).length := by obtain ⟨es, rfl⟩ := hDm; simp [Maps.size, intKeys]
    have e2 := hperm.length_eq
    rw [List.length_map] at e2
    have := keysUp_len d
    have := hW.hi
    omega
  have HKC : Hid (Calls Try.prog 61 #[.map (some L.mi)] w _) := keys_any L.mi w
  obtain ⟨w1, hw1⟩ : ∃ w1, w.alloc (.cells #[.map (some L.mi)] 59) = w1 := ⟨_, rfl⟩
  have HSC := sorted_any w hD (by unfold maxLen; omega) (by omega)
  rw [hw1] at HSC HKC
  have k1 : Below w.heap.size w w1 := by rw [← hw1]; exact (Below.refl _ _).alloc (Nat.le_refl _) _
  have HK1 : Hid (Below w.heap.size w w1) := k1
  have HSC : Hid (Calls Try.prog 60 #[.func (.func 68) #[] #[.pointer (some ⟨w.heap.size, 0, none⟩)]] w1 _) := HSC
  have HSO : Hid (∀ ss : List Int, ss.Perm (intKeys D) → ss.mergeSort (fun x y => decide (x ≤ y)) = (keysUp d).map (fun n => ((n : Nat) : Int)) ∧ ss.length = (keysUp d).length) := fun ss h => keys_sort hperm h
  have HKL : Hid ((keysUp d).length ≤ 1000001) := by have := keysUp_len d; have := hW.hi; show _ ≤ _; omega
  have HKM : Hid (∀ n ∈ keysUp d, n ≤ 1000000) := fun n hn => by have := (keysUp_mem.1 hn).1; have := hW.hi; omega
  have H0 : Hid (∀ u, Below w.heap.size w u → I 0 u) := h0
  have HRD : Hid (∀ i n u, (keysUp d)[i]? = some n → I i u → u.cell? ⟨B, 1, none⟩ = some (.map (some L.mi)) ∧ (Instr.lookup 59 (.map (some L.mi)) (.int .i64 (n : Nat)) false).run Try.prog u = .ok (.pointer (some ⟨L.ai n, 0, none⟩)) u) := hrd
  have HST : Hid (∀ i n u, (keysUp d)[i]? = some n → I i u → w.heap.size ≤ u.heap.size → Calls Try.prog 49 #[.pointer (some ⟨L.ai n, 0, none⟩), .pointer (some ⟨Bk, 0, none⟩), .pointer (some ⟨Bp, 0, none⟩)] u fun e u' => e = .returned (.tuple #[]) ∧ I (i + 1) u' ∧ u.heap.size ≤ u'.heap.size ∧ ∀ k, w.heap.size ≤ k → k < u.heap.size → u'.heap[k]? = u.heap[k]?) := hst
  obtain ⟨N, hN⟩ : ∃ N, (keysUp d).length = N := ⟨_, rfl⟩
  have HN : Hid ((keysUp d).length = N) := hN
  rw [hN] at HKL ⊢
  clear hW hK hL h0 hrd hst hD hDm hDF hperm hsz hw1 k1 hN
  go_enter Try.func48, Try.ntmps48
  go_wp2_with fail
  refine HKC.out.mono ?_
  rintro e u1 ⟨rfl, rfl⟩
  clear HKC c0 c1 c2
  go_wp2_with fail
  refine HSC.out.mono ?_
  rintro e w2 ⟨v, ss, rfl, hp, hrow, k2⟩
  obtain ⟨hs1, hs2⟩ := HSO.out ss hp
  rw [hs1, hs2] at hrow
  have HB2 : Hid (Below w.heap.size w w2) := below_step HK1.out k2
  have hrow2 : w2.ownsRow w.heap.size 3 1 v (keysUp d).length (((keysUp d).map fun n => ((n : Nat) : Int)).map encZ) := own_low hrow HK1.out.size
  clear HSC HSO hp hrow k2 hs1 hs2 HK1 ss
  rw [HN.out] at hrow2
  have hNl : N ≤ 1000001 := HKL.out
  have HROW : Hid (w2.ownsRow w.heap.size 3 1 v N (((keysUp d).map fun n => ((n : Nat) : Int)).map encZ)) := hrow2
  rcases hrow2.2 with ⟨rfl, h0⟩ | ⟨g, cap, cur, rfl, hgb, hgc, hcn, hcm, hcs, hct⟩
  · subst h0
    have HE : Hid (I 0 w2) := H0.out w2 HB2.out
    clear H0 HRD HST HROW HKM hrow2
    go_wp2_with fail
    go_loopw [13] (fun i u => i = .int .i64 0 ∧ Hid (I 0 u)) (fun _ _ => 0)
    case atStart => exact ⟨rfl, HE⟩
    case round =>
      obtain ⟨rfl, HIu⟩ := hrel
      go_wp2
      first | go_end0 | (simp only [Exit.inBlock, Exit.then]; refine bodyPost_ret (results_none rfl _ _ _) rfl ?_) | refine bodyPost_ret (results_none rfl _ _ _) rfl ?_
      exact ⟨rfl, HIu.out⟩
  · clear hcs hct hgc hrow2
    go_wp2_with fail
    go_loopw [13] (fun i u => ∃ j : Nat, i = .int .i64 (j : Nat) ∧ j ≤ N ∧ Hid (I j u ∧ w.heap.size ≤ u.heap.size ∧ u.ownsRow w.heap.size 3 1 (.slice (some ⟨g, 0, none⟩) N cap) N (((keysUp d).map fun n => ((n : Nat) : Int)).map encZ))) (fun i _ => N - (Go.RowKit.intOf i).toNat)
    case atStart => exact ⟨0, rfl, Nat.zero_le _, H0.out w2 HB2.out, HB2.out.size, HROW.out⟩
    case round =>
      obtain ⟨j, rfl, hjn, HR⟩ := hrel
      clear HROW HB2 H0
      by_cases hlt : j < N
      · have hlt' : (j : Int) < (N : Int) := by omega
        obtain ⟨n, hn⟩ : ∃ n, (keysUp d)[j]? = some n := ⟨_, List.getElem?_eq_getElem (by rw [HN.out]; exact hlt)⟩
        have hnl := HKM.out n (List.mem_of_getElem? hn)
        have hcell : wr.cell? ⟨g, j, none⟩ = some (.int .i64 (n : Nat)) := by
          have h := HR.out.2.2.cells (g := g) rfl j (.int .i64 (n : Nat)) (by simp [hn])
          rw [Go.WideShapes.add_plain, Nat.zero_add] at h
          exact h
        obtain ⟨d1, hlook⟩ := HRD.out j n wr hn HR.out.1
        have HC : Hid (Calls Try.prog 49 #[.pointer (some ⟨L.ai n, 0, none⟩), .pointer (some ⟨Bk, 0, none⟩), .pointer (some ⟨Bp, 0, none⟩)] wr _) := HST.out j n wr hn HR.out.1 HR.out.2.1
        go_wp2_with fail
        refine HC.out.mono ?_
        rintro e u ⟨rfl, h1, h2, h3⟩
        have HR2 : Hid (I (j + 1) u ∧ w.heap.size ≤ u.heap.size ∧ u.ownsRow w.heap.size 3 1 (.slice (some ⟨g, 0, none⟩) N cap) N (((keysUp d).map fun n => ((n : Nat) : Int)).map encZ)) := ⟨h1, Nat.le_trans HR.out.2.1 h2, ownsRow_keep HR.out.2.2 (fun b hb hb1 hb2 => h3 b hb1 hb2)⟩
        clear h1 h2 h3 HC HR hcell d1 hlook hn
        go_wp2
        go_roundw
        case rel => exact ⟨j + 1, by go_num, by omega, HR2⟩
        case measure => simp [Go.RowKit.intOf]; omega
      · have hlt' : ¬ (j : Int) < (N : Int) := by omega
        have HE : Hid (I N wr) := by have := HR.out.1; rw [show j = N by omega] at this; exact this
        go_wp2
        first | go_end0 | (simp only [Exit.inBlock, Exit.then]; refine bodyPost_ret (results_none rfl _ _ _) rfl ?_) | refine bodyPost_ret (results_none rfl _ _ _) rfl ?_
        exact ⟨rfl, HE.out⟩
end Go.Proofs.Ytpikepifhnkmkaa
