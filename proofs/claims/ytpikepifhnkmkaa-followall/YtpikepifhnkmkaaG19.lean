/- simfs: New, Create. -/
import Derived.Test.YtpikepifhnkmkaaG17
namespace Go.Proofs.Ytpikepifhnkmkaa
open Go.RowKit Go.Maps Sf
attribute [local go_sem ↓] Go.wp_at_zero Go.wp_at_succ

def CreatePost (P : Nat → Prop) (d : Dk) (K B : Nat) (s : ByteArray) (w : World) (e : Ending) (w' : World) : Prop :=
  (err d s ≠ 141 ∧ No w e (if err d s = 0 then 142 else 140) w') ∨ (err d s = 141 ∧ e = .returned (.int .i64 0) ∧ DkTo P w B (Sf.create d s) (K + 1) w')
theorem inoZ_none {d : Dk} {K : Nat} (h : Wf d K) : d.ino (d.hi + 1) = none := by
  cases x : d.ino (d.hi + 1) with
  | none => rfl
  | some f => have := (h.ino _ f x).2.1; omega
set_option maxRecDepth 8000 in
set_option maxHeartbeats 800000 in
theorem create_any {P : Nat → Prop} {w : World} {B K : Nat} {d : Dk} (h : Dsk P w B d K) (s : ByteArray) (hs : s.size ≤ maxLen) :
    Calls Try.prog 10 #[.pointer (some ⟨B, 0, none⟩), .string s] w (CreatePost P d K B s w) := by
  obtain ⟨L, hL, hc⟩ := h.m
  have HF : Hid (Calls Try.prog 24 #[.pointer (some ⟨B, 0, none⟩), .string s] w _) := dsk_file h hL s hs
  rcases err_cases d s with he | he | he
  · have hfv : fileV d L s = .pointer (some ⟨L.ai (num d s), 0, none⟩) := by unfold fileV; rw [if_pos he]
    rw [hfv, he] at HF
    have HE : Hid (err d s = 0) := he
    clear h hL hc hs hfv he
    go_enter Try.func10, Try.ntmps10
    go_wp2_with fail
    refine HF.out.mono ?_
    rintro e w1 ⟨rfl, k1⟩
    clear HF
    go_wp2
    go_ret
    exact .inl ⟨by rw [HE.out]; omega, by rw [HE.out]; exact ⟨rfl, k1⟩⟩
  · have hfv : fileV d L s = .pointer none := by unfold fileV; rw [if_neg (by omega)]
    have hm : may s = true := by
      unfold err at he
      cases x : may s with
      | true => rfl
      | false => rw [x] at he; simp at he
    have hsz := (may_size hm).2
    have hk := h.k
    have hhi := h.wf.hi
    have HKK : Hid (d.hi ≤ K ∧ K ≤ 1000000 ∧ ser d s ≤ K ∧ L.ci ≤ K ∧ L.cn ≤ K ∧ d.ino (d.hi + 1) = none ∧ s.size ≤ 4096) := ⟨hhi, hk, h.wf.serLe s, hc.1, hc.2, inoZ_none h.wf, by omega⟩
    rw [hfv, he] at HF
    have HE : Hid (err d s = 141) := he
    have HD : Hid (DkAt P w B d L) := hL
    obtain ⟨hi, hhd⟩ : ∃ hi, d.hi = hi := ⟨_, rfl⟩
    have HHI : Hid (d.hi = hi) := hhd
    rw [hhd] at hhi
    clear h hL hc hs hfv he hm hsz hhd
    go_enter Try.func10, Try.ntmps10
    go_wp2_with fail
    refine HF.out.mono ?_
    rintro e w1 ⟨rfl, k1⟩
    have HK1 : Hid (Below w.heap.size w w1) := k1
    have h1 := HD.out.later k1
    obtain ⟨c0, c1, c2⟩ := h1.cells
    have q0 := h1.frozen 0
    rw [HHI.out] at c0
    have h2 := h1.up
    rw [HHI.out] at h2
    obtain ⟨w2, hw2⟩ : ∃ w2, w1.setCell ⟨B, 0, none⟩ (.int .i64 ((hi : Int) + 1)) = w2 := ⟨_, rfl⟩
    have hw2' : w1.setCell ⟨B, 0, none⟩ (.int .i64 ((hi + 1 : Nat) : Nat)) = w2 := hw2
    rw [hw2'] at h2
    have hf2 : FrP P w1 w2 := by rw [← hw2]; exact FrP.set (FrP.refl P w1) (fun _ => h1.pB.1) 0 _
    obtain ⟨A, hA⟩ : ∃ A, w2.heap.size = A := ⟨_, rfl⟩
    obtain ⟨w3, hw3⟩ : ∃ w3, w2.alloc (.cells #[.int .i64 ((hi : Int) + 1), .string ⟨#[]⟩, .int .i64 0, .slice none 0 0, .int .i64 0] 86) = w3 := ⟨_, rfl⟩
    have k3 : Below w2.heap.size w2 w3 := by rw [← hw3]; exact (Below.refl _ _).alloc (Nat.le_refl _) _
    have iA : InoAt w3 A (hi + 1) fresh nilV := ⟨by rw [← hw3, ← hA]; exact heap_alloc_new w2 _, owns_nil _ _ _⟩
    have h3 := h2.later k3
    obtain ⟨x0, e1, e2⟩ := h2.cells
    obtain ⟨_, d1, d2⟩ := h3.cells
    obtain ⟨y0, i1, i2, i3, i4⟩ := iA.cells
    have i0 : w3.cell? ⟨A, 0, none⟩ = some (.int .i64 ((hi : Int) + 1)) := y0
    have e0 : w2.cell? ⟨B, 0, none⟩ = some (.int .i64 ((hi : Int) + 1)) := by rw [x0]; show some (Value.int .i64 ((d.hi + 1 : Nat) : Int)) = _; rw [HHI.out]; rfl
    obtain ⟨w4, hrun, hm4, hg4, hs4⟩ := h3.drew.im.put lawI (mt := 59) (e := 76) (by kernel_rfl) (by have := HKK.out; unfold maxLen; omega) (k := ((hi + 1 : Nat) : Int)) (by unfold goodI; omega) keyI kvI_inj (.pointer (some ⟨A, 0, none⟩))
    have hrun : (Instr.mapUpdate 59 (.map (some L.mi)) (.int .i64 ((hi : Int) + 1)) (.pointer (some ⟨A, 0, none⟩))).run Try.prog w3.drew = .ok () w4 := hrun
    have hmA : A ≠ L.mi := by have := h2.low _ h2.pB.2.1; omega
    have hbA : w4.heap[A]? = w3.heap[A]? := hg4.block A iA.lt (fun e => hmA (by cases e; rfl))
    have iA4 : InoAt w4 A (hi + 1) fresh nilV := ⟨hbA.trans iA.b, owns_nil _ _ _⟩
    have hfr4 : FrP (fun k => k = L.mi) w2 w4 := by
      have f3 : FrP (fun k => k = L.mi) w2 w3.drew := (FrP.of_below (fun k => k = L.mi) k3).drew
      exact f3.grown hg4 (fun k _ e => by cases e; rfl)
    have h4 := h2.addI (n := hi + 1) (f := fresh) (a := A) (V := nilV) (by show d.ino (hi + 1) = none; rw [← HHI.out]; exact HKK.out.2.2.2.2.2.1) iA4 (by omega) (fun b hb => by cases hb) hm4 hfr4
    have hf4 : FrP P w1 w4 := hf2.trans (Q' := fun k => k = L.mi) hfr4 (fun k _ e => by subst e; exact h1.pB.2.1)
    have HAR := arrive_any h4 (n := hi + 1) (f := fresh) (by simp [Sf.putI]) s HKK.out.2.2.2.2.2.2 (by have := HKK.out; show ser d s < _; omega) (by have := HKK.out; show L.cn < _; omega)
    simp only [if_pos] at HAR
    have HAR : Hid (Calls Try.prog 27 #[.pointer (some ⟨B, 0, none⟩), .pointer (some ⟨A, 0, none⟩), .string s] w4 _) := HAR
    have HEND : Hid (∀ w5 L', DkAt (More (More P w2 w4) w4 w5) w5 B (Sf.arrive (Sf.putI (Sf.up d) (hi + 1) (some fresh)) (hi + 1) fresh s) L' → L'.ci = L.ci + 1 → L'.cn ≤ L.cn + 1 → FrP (More P w2 w4) w4 w5 → DkTo P w B (Sf.create d s) (K + 1) w5) := fun w5 L' a1 a2 a3 a4 => by
      have hp : ∀ k, P k → k < w.heap.size := HD.out.low
      have z1 := HK1.out.size
      have z2 := hf2.size
      have z4 := hfr4.size
      have z5 := a4.size
      refine ⟨⟨L', ?_, by have := HKK.out; omega, by have := HKK.out; omega⟩, ?_⟩
      · unfold Sf.create
        rw [HHI.out]
        refine a1.mono (fun k hk => ?_) (fun k hk => ?_)
        · rcases hk with (hk | hk) | hk
          · exact .inl hk
          · exact .inr ⟨by omega, by omega⟩
          · exact .inr ⟨by omega, hk.2⟩
        · rcases hk with hk | hk
          · have := hp k hk; omega
          · exact hk.2
      · refine (FrP.of_below P HK1.out).trans (hf4.trans a4 (fun k hk hm => ?_)) (fun k _ hq => hq)
        rcases hm with hm | hm
        · exact hm
        · omega
    have HW : Hid (w1.setCell ⟨B, 0, none⟩ (.int .i64 ((hi : Int) + 1)) = w2 ∧ w2.heap.size = A ∧ w2.alloc (.cells #[.int .i64 ((hi : Int) + 1), .string ⟨#[]⟩, .int .i64 0, .slice none 0 0, .int .i64 0] 86) = w3) := ⟨hw2, hA, hw3⟩
    have hle : (hi : Int) ≤ 1000000 := by omega
    clear k1 h1 h2 hw2 hw2' hf2 hA hw3 k3 iA h3 hm4 hg4 hs4 hmA hbA iA4 hfr4 h4 hf4 HK1 HD HHI HF i1 i2 i3 i4 x0 y0
    go_upto_region 8 with fail
    rw [HW.out.1]
    clear c0 c1 c2 q0
    go_upto_region 9 with fail
    rw [HW.out.2.2, HW.out.2.1]
    clear HW e0 e1 e2
    go_region
    clear hrun i0 d1 d2
    go_wp2_with fail
    refine HAR.out.mono ?_
    rintro e w5 ⟨rfl, L', a1, a2, a3, a4⟩
    have HP : Hid (DkTo P w B (Sf.create d s) (K + 1) w5) := HEND.out w5 L' a1 a2 a3 a4
    clear a1 a2 a3 a4 HAR HEND
    go_wp2
    go_ret
    exact .inr ⟨HE.out, rfl, HP.out⟩
  · have hfv : fileV d L s = .pointer none := by unfold fileV; rw [if_neg (by omega)]
    rw [hfv, he] at HF
    have HE : Hid (err d s = 140) := he
    clear h hL hc hs hfv he
    go_enter Try.func10, Try.ntmps10
    go_wp2_with fail
    refine HF.out.mono ?_
    rintro e w1 ⟨rfl, k1⟩
    clear HF
    go_wp2
    go_ret
    exact .inl ⟨by rw [HE.out]; omega, by rw [HE.out]; exact ⟨rfl, k1⟩⟩
end Go.Proofs.Ytpikepifhnkmkaa
