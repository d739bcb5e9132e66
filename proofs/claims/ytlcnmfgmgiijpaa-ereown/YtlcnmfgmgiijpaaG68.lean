/- heronlaw04.gather, walked. -/
import Derived.Test.YtlcnmfgmgiijpaaG67
namespace Go.Proofs.Ytlcnmfgmgiijpaa
open Go.RowKit
attribute [local go_sem ↓] Go.wp_at_zero Go.wp_at_succ

set_option maxRecDepth 4000 in
set_option maxHeartbeats 4000000 in
theorem gather_any {w0 : World} {x : Nd} {L : List Ls} (h : GL w0 x L) : ∀ (w : World) (b0 : Nat) (V : Value) (P : List Ls) (d : Int), Gf b0 w0 w → Rowl w b0 V P → b0 ≤ w.heap.size → P.length + L.length ≤ 1000000 → Calls Try.prog 13 #[V, x.val, .int .i64 d] w fun e w' => ∃ V', e = .returned V' ∧ Rowl w' b0 V' (P ++ L) ∧ Gf b0 w w' := by
  induction h with
  | mk x vs Ls_ hl hl2 hm hr hsub own ho ih =>
    intro w b0 V P d hf hV hb hlen
    obtain ⟨k, s, a, n, c, mn, mx⟩ := x
    simp only at hl hl2 hm hr ho
    have HIH : Hid (∀ (i : Nat) (v : Nd) (L : List Ls), vs[i]? = some v → Ls_[i]? = some L → ∀ (w : World) (b0 : Nat) (V : Value) (P : List Ls) (d : Int), Gf b0 w0 w → Rowl w b0 V P → b0 ≤ w.heap.size → P.length + L.length ≤ 1000000 → Calls Try.prog 13 #[V, v.val, .int .i64 d] w fun e w' => ∃ V', e = .returned V' ∧ Rowl w' b0 V' (P ++ L) ∧ Gf b0 w w') := ih
    have HRO : Hid (Ytlcnmfgmgiijpaa.RowAt (fun b => TyB w0 28 b) w0 a vs) := hr
    have HL : Hid (vs.length = n) := hl
    have HL2 : Hid (Ls_.length = n) := hl2
    have HF : Hid (Gf b0 w0 w) := hf
    have HB : Hid (b0 ≤ w.heap.size) := hb
    have HO : Hid (own = [] ∧ n = 0 ∨ ∃ g, a = some ⟨g, 0, none⟩ ∧ 0 < n ∧ own = [⟨g, n, c⟩]) := ho
    have HLEN : Hid (P.length + (Ls_.flatten ++ own).length ≤ 1000000) := hlen
    have k1 : Below w.heap.size w (w.alloc (.cells #[.int .i64 k, .int .u64 (Oct.word s 0 : Nat), .int .u64 (Oct.word s 1 : Nat), .int .u64 (Oct.word s 2 : Nat), .int .u64 (Oct.word s 3 : Nat), .slice a n c, .int .i64 mn, .int .i64 mx] 28)) := (Below.refl _ _).alloc (Nat.le_refl _) _
    have HNB : Hid (NB (w.alloc (.cells #[.int .i64 k, .int .u64 (Oct.word s 0 : Nat), .int .u64 (Oct.word s 1 : Nat), .int .u64 (Oct.word s 2 : Nat), .int .u64 (Oct.word s 3 : Nat), .slice a n c, .int .i64 mn, .int .i64 mx] 28)) w.heap.size ⟨k, s, a, n, c, mn, mx⟩) := nb_new w ⟨k, s, a, n, c, mn, mx⟩
    have HG1 : Hid (Gf b0 w (w.alloc (.cells #[.int .i64 k, .int .u64 (Oct.word s 0 : Nat), .int .u64 (Oct.word s 1 : Nat), .int .u64 (Oct.word s 2 : Nat), .int .u64 (Oct.word s 3 : Nat), .slice a n c, .int .i64 mn, .int .i64 mx] 28))) := (Gf.refl b0 w).later k1
    have HV1 : Hid (Rowl (w.alloc (.cells #[.int .i64 k, .int .u64 (Oct.word s 0 : Nat), .int .u64 (Oct.word s 1 : Nat), .int .u64 (Oct.word s 2 : Nat), .int .u64 (Oct.word s 3 : Nat), .slice a n c, .int .i64 mn, .int .i64 mx] 28)) b0 V P) := hV.keep (fun b _ hlt _ => k1.block b hlt)
    obtain ⟨w1, hw1⟩ : ∃ w1, w1 = w.alloc (.cells #[.int .i64 k, .int .u64 (Oct.word s 0 : Nat), .int .u64 (Oct.word s 1 : Nat), .int .u64 (Oct.word s 2 : Nat), .int .u64 (Oct.word s 3 : Nat), .slice a n c, .int .i64 mn, .int .i64 mx] 28) := ⟨_, rfl⟩
    obtain ⟨A, hA⟩ : ∃ A, A = w.heap.size := ⟨_, rfl⟩
    rw [← hw1] at HNB HG1 HV1
    rw [← hA] at HNB
    have HW1 : Hid (w.alloc (.cells #[.int .i64 k, .int .u64 (Oct.word s 0 : Nat), .int .u64 (Oct.word s 1 : Nat), .int .u64 (Oct.word s 2 : Nat), .int .u64 (Oct.word s 3 : Nat), .slice a n c, .int .i64 mn, .int .i64 mx] 28) = w1) := hw1.symm
    have HAA : Hid (A = w.heap.size) := hA
    clear hw1 hA k1 hf hV hb hlen hl hl2 hr hsub ho ih
    obtain ⟨b0', b1', b2', b3', b4', b5', b6', b7'⟩ := HNB.out.cells
    simp only at b0' b1' b2' b3' b4' b5' b6' b7'
    unfold Nd.val
    simp only
    go_enter Try.func13, Try.ntmps13
    go_upto_region 1 with fail
    rw [HW1.out, ← HAA.out]
    clear HW1
    go_wp2_with fail
    go_loopw [0, 12] (fun v i u => ∃ m : Nat, i = .int .i64 (m : Nat) ∧ m ≤ n ∧ Hid (Rowl u b0 v (P ++ (Ls_.take m).flatten)) ∧ Hid (Gf b0 w u) ∧ Hid (NB u A ⟨k, s, a, n, c, mn, mx⟩)) (fun _ i _ => n - (intOf i).toNat)
    case atStart => exact ⟨0, rfl, Nat.zero_le _, by simpa using HV1, HG1, HNB⟩
    case round =>
      clear HNB HG1 HV1 b0' b1' b2' b3' b4' b5' b6' b7'
      obtain ⟨m, rfl, hmn, hrl, hgf, hnb⟩ := hrel
      by_cases hlt : m < n
      · have hlt' : (m : Int) < (n : Int) := by omega
        obtain ⟨v, hv⟩ : ∃ v, vs[m]? = some v := ⟨_, List.getElem?_eq_getElem (by rw [HL.out]; exact hlt)⟩
        obtain ⟨L1, hL1⟩ : ∃ L1, Ls_[m]? = some L1 := ⟨_, List.getElem?_eq_getElem (by rw [HL2.out]; exact hlt)⟩
        have HF0 : Hid (Gf b0 w0 wr) := HF.out.trans hgf.out
        have hrow := (HRO.out.keep (Y := fun _ => True) (fun _ _ _ => trivial) (fun b hb hlt => HF0.out.block b hlt (fun _ h3 => absurd (TyB.ne hb h3) (by decide)))).nth hv
        obtain ⟨g, off, rfl, e0, e1, e2, e3, e4, e5, e6, e7⟩ := hrow
        have HTK : Hid (P ++ (Ls_.take (m + 1)).flatten = P ++ (Ls_.take m).flatten ++ L1) := by show _ = _; rw [List.take_add_one, hL1]; simp
        have HPL : Hid ((P ++ (Ls_.take m).flatten).length + L1.length ≤ 1000000) := by
          have h1 : (P ++ (Ls_.take (m + 1)).flatten).length ≤ P.length + (Ls_.flatten ++ own).length := by
            rw [List.length_append, List.length_append]
            have h2 : (Ls_.take (m + 1)).flatten.length ≤ Ls_.flatten.length := by
              conv => rhs; rw [← List.take_append_drop (m + 1) Ls_, List.flatten_append, List.length_append]
              omega
            omega
          rw [HTK.out, List.length_append] at h1
          have := HLEN.out
          show _ ≤ _
          omega
        have HCALL : Hid (∀ (w : World) (V : Value) (P : List Ls) (d : Int), Gf b0 w0 w → Rowl w b0 V P → b0 ≤ w.heap.size → P.length + L1.length ≤ 1000000 → Calls Try.prog 13 #[V, v.val, .int .i64 d] w fun e w' => ∃ V', e = .returned V' ∧ Rowl w' b0 V' (P ++ L1) ∧ Gf b0 w w') := fun w V P d => HIH.out m v L1 hv hL1 w b0 V P d
        obtain ⟨Q, hQ⟩ : ∃ Q, Q = P ++ (Ls_.take m).flatten := ⟨_, rfl⟩
        rw [← hQ] at hrl HTK HPL
        clear hv hL1 hQ
        have k3 : Below wr.heap.size wr (wr.alloc (.cells #[.int .i64 v.k, .int .u64 (Oct.word v.s 0 : Nat), .int .u64 (Oct.word v.s 1 : Nat), .int .u64 (Oct.word v.s 2 : Nat), .int .u64 (Oct.word v.s 3 : Nat), .slice v.a v.n v.c, .int .i64 v.mn, .int .i64 v.mx] 28)) := (Below.refl _ _).alloc (Nat.le_refl _) _
        have HN3 : Hid (NB (wr.alloc (.cells #[.int .i64 v.k, .int .u64 (Oct.word v.s 0 : Nat), .int .u64 (Oct.word v.s 1 : Nat), .int .u64 (Oct.word v.s 2 : Nat), .int .u64 (Oct.word v.s 3 : Nat), .slice v.a v.n v.c, .int .i64 v.mn, .int .i64 v.mx] 28)) wr.heap.size v) := nb_new wr v
        have HR3 : Hid (Rowl (wr.alloc (.cells #[.int .i64 v.k, .int .u64 (Oct.word v.s 0 : Nat), .int .u64 (Oct.word v.s 1 : Nat), .int .u64 (Oct.word v.s 2 : Nat), .int .u64 (Oct.word v.s 3 : Nat), .slice v.a v.n v.c, .int .i64 v.mn, .int .i64 v.mx] 28)) b0 _ Q) := hrl.out.keep (fun b _ hlt _ => k3.block b hlt)
        have HG3 : Hid (Gf b0 w (wr.alloc (.cells #[.int .i64 v.k, .int .u64 (Oct.word v.s 0 : Nat), .int .u64 (Oct.word v.s 1 : Nat), .int .u64 (Oct.word v.s 2 : Nat), .int .u64 (Oct.word v.s 3 : Nat), .slice v.a v.n v.c, .int .i64 v.mn, .int .i64 v.mx] 28))) := hgf.out.later k3
        have HB3 : Hid (NB (wr.alloc (.cells #[.int .i64 v.k, .int .u64 (Oct.word v.s 0 : Nat), .int .u64 (Oct.word v.s 1 : Nat), .int .u64 (Oct.word v.s 2 : Nat), .int .u64 (Oct.word v.s 3 : Nat), .slice v.a v.n v.c, .int .i64 v.mn, .int .i64 v.mx] 28)) A ⟨k, s, some ⟨g, off, none⟩, n, c, mn, mx⟩) := hnb.out.later k3
        clear k3
        obtain ⟨b0', b1', b2', b3', b4', b5', b6', b7'⟩ := hnb.out.cells
        simp only at b0' b1' b2' b3' b4' b5' b6' b7'
        go_upto_region 4 with fail
        obtain ⟨w3, hw3⟩ : ∃ w3, w3 = wr.alloc (.cells #[.int .i64 v.k, .int .u64 (Oct.word v.s 0 : Nat), .int .u64 (Oct.word v.s 1 : Nat), .int .u64 (Oct.word v.s 2 : Nat), .int .u64 (Oct.word v.s 3 : Nat), .slice v.a v.n v.c, .int .i64 v.mn, .int .i64 v.mx] 28) := ⟨_, rfl⟩
        obtain ⟨Y, hY⟩ : ∃ Y, Y = wr.heap.size := ⟨_, rfl⟩
        rw [← hw3] at HN3 HR3 HG3 HB3 ⊢
        rw [← hY] at HN3 ⊢
        clear hw3 hY e0 e1 e2 e3 e4 e5 e6 e7 b0' b1' b2' b3' b4' b5' b6' b7'
        obtain ⟨e0, e1, e2, e3, e4, e5, e6, e7⟩ := HN3.out.cells
        unfold Nd.val at HCALL
        go_wp2_with fail
        refine (HCALL.out w3 _ Q _ (HF.out.trans HG3.out) HR3.out (by have := HB.out; have := HG3.out.size; omega) HPL.out).mono ?_
        rintro e w4 ⟨V4, rfl, hr4, hf4⟩
        have HR4 : Hid (Rowl w4 b0 V4 (Q ++ L1)) := hr4
        have HG4 : Hid (Gf b0 w w4) := HG3.out.trans hf4
        have HB4 : Hid (NB w4 A ⟨k, s, some ⟨g, off, none⟩, n, c, mn, mx⟩) := hf4.keep HB3.out (by decide)
        clear hr4 hf4 e0 e1 e2 e3 e4 e5 e6 e7
        go_wp2
        go_roundw
        case rel => exact ⟨m + 1, by go_num, by omega, by rw [HTK.out]; exact HR4, HG4, HB4⟩
        case measure => simp [intOf]; omega
      · have hlt' : ¬ (m : Int) < (n : Int) := by omega
        have HTK : Hid ((Ls_.take m).flatten = Ls_.flatten) := by show _ = _; rw [List.take_of_length_le (by rw [HL2.out]; omega)]
        rw [HTK.out] at hrl
        clear HTK HIH HRO
        obtain ⟨b0', b1', b2', b3', b4', b5', b6', b7'⟩ := hnb.out.cells
        simp only at b0' b1' b2' b3' b4' b5' b6' b7'
        rcases HO.out with ⟨ho, hn0⟩ | ⟨g, ha, hn0, ho⟩
        · have q0 : ¬ (0 : Int) < (n : Int) := by omega
          have HE : Hid (P ++ (Ls_.flatten ++ own) = P ++ Ls_.flatten) := by show _ = _; rw [ho, List.append_nil]
          clear ho hn0 HO
          go_wp2
          go_ret
          exact ⟨_, rfl, by rw [HE.out]; exact hrl.out, hgf.out⟩
        · subst ha
          have q0 : (0 : Int) < (n : Int) := by omega
          have HE : Hid (P ++ (Ls_.flatten ++ own) = P ++ Ls_.flatten ++ [⟨g, n, c⟩]) := by show _ = _; rw [ho, List.append_assoc]
          have HLQ : Hid ((P ++ Ls_.flatten).length ≤ 1000000) := by have := HLEN.out; rw [List.length_append] at this; show _ ≤ _; rw [List.length_append]; omega
          obtain ⟨Q, hQ⟩ : ∃ Q, Q = P ++ Ls_.flatten := ⟨_, rfl⟩
          rw [← hQ] at hrl HE HLQ
          clear ho hn0 HO hQ
          have k3 : Below wr.heap.size wr (wr.alloc (.cells #[.slice (some ⟨g, 0, none⟩) n c] 26)) := (Below.refl _ _).alloc (Nat.le_refl _) _
          have HR3 : Hid (Rowl (wr.alloc (.cells #[.slice (some ⟨g, 0, none⟩) n c] 26)) b0 _ Q) := hrl.out.keep (fun b _ hlt _ => k3.block b hlt)
          have HG3 : Hid (Gf b0 w (wr.alloc (.cells #[.slice (some ⟨g, 0, none⟩) n c] 26))) := hgf.out.later k3
          have HC3 : Hid ((wr.alloc (.cells #[.slice (some ⟨g, 0, none⟩) n c] 26)).cell? ⟨wr.heap.size, 0, none⟩ = some (Ls.val ⟨g, n, c⟩)) := by show _ = _; rw [World.cell?_alloc_mark]; rfl
          have HZ3 : Hid (b0 ≤ (wr.alloc (.cells #[.slice (some ⟨g, 0, none⟩) n c] 26)).heap.size) := by have := HB.out; have := HG3.out.size; show _ ≤ _; omega
          clear k3
          go_wp2_with (at_builtin; go_must (refine wpList_append_ls rfl _ _ rfl b0 _ Q rfl HR3.out ⟨wr.heap.size, 0, none⟩ 1 ⟨g, n, c⟩ rfl HC3.out HLQ.out HZ3.out ?_; intro g' cap' w6 hn6 hg6 hx6; have HR6 : Hid (Rowl w6 b0 _ (Q ++ [⟨g, n, c⟩])) := hn6; have HG6 : Hid (Gf b0 w w6) := (HG3.out.trans (Gf.own hg6 HR3.out.ty)); clear hn6 hg6 hx6))
          go_ret
          exact ⟨_, rfl, by rw [HE.out]; exact HR6.out, HG6.out⟩
end Go.Proofs.Ytlcnmfgmgiijpaa
