/- simfs: Inode, Read, New. -/
import Derived.Test.YtpikepifhnkmkaaG16
namespace Go.Proofs.Ytpikepifhnkmkaa
open Go.RowKit Go.Maps Sf
attribute [local go_sem ↓] Go.wp_at_zero Go.wp_at_succ

/-- the inode of a number, if there is one -/
def inoZ (d : Dk) (z : Int) : Option Ino := if 0 ≤ z then d.ino z.toNat else none
theorem Lay.inoZ (L : Lay) (d : Dk) (z : Int) : (L.ino d z).getD (.pointer none) = if (Go.Proofs.Ytpikepifhnkmkaa.inoZ d z).isSome then .pointer (some ⟨L.ai z.toNat, 0, none⟩) else .pointer none := by
  unfold Lay.ino Go.Proofs.Ytpikepifhnkmkaa.inoZ
  by_cases h : 0 ≤ z
  · rw [if_pos h, if_pos h]
    cases d.ino z.toNat <;> rfl
  · rw [if_neg h, if_neg h]
    rfl
def InodePost (d : Dk) (y : Int) (w : World) (e : Ending) (w' : World) : Prop := (inoZ d y = none ∧ e = .returned (.tuple #[statV 0 0 0 0, .int .i64 143]) ∧ Below w.heap.size w w') ∨ (∃ f, inoZ d y = some f ∧ e = .returned (.tuple #[statV y.toNat (ser d f.nm) f.gen f.bs.length, .int .i64 0]) ∧ Below w.heap.size w w')
set_option maxRecDepth 8000 in
set_option maxHeartbeats 800000 in
theorem inode_any {P : Nat → Prop} {w : World} {B K : Nat} {d : Dk} (h : Dsk P w B d K) (y : Int) (hy : goodI y) :
    Calls Try.prog 57 #[.pointer (some ⟨B, 0, none⟩), .int .i64 y] w (InodePost d y w) := by
  obtain ⟨w1, hw1⟩ : ∃ w1, w.alloc (.cells #[.int .i64 0, .int .i64 0, .int .i64 0, .int .i64 0] 64) = w1 := ⟨_, rfl⟩
  have k1 : Below w.heap.size w w1 := by rw [← hw1]; exact (Below.refl _ _).alloc (Nat.le_refl _) _
  have HW1 : Hid (w.alloc (.cells #[.int .i64 0, .int .i64 0, .int .i64 0, .int .i64 0] 64) = w1) := hw1
  obtain ⟨z, hz⟩ : ∃ z, w.heap.size = z := ⟨_, rfl⟩
  have HZ : Hid (w.heap.size = z) := hz
  have HST : Hid (StatB w1 z (.int .i64 0) (.int .i64 0) (.int .i64 0) (.int .i64 0)) := by rw [← hw1, ← hz]; exact heap_alloc_new w _
  have h1 := h.later k1
  obtain ⟨L, hL, hc⟩ := h1.m
  have HK1 : Hid (Below w.heap.size w w1) := k1
  have hp1 : ∀ (p : Option Addr) (u : World), (binOp .eql 76 (.pointer p) (.pointer none)).run Try.prog u = .ok (.bool p.isNone) u := fun p u => run_eql_pointer_nil u _ p (by kernel_rfl)
  have hlook := hL.looki hy
  rw [Lay.inoZ] at hlook
  obtain ⟨c0, c1, c2⟩ := hL.cells
  obtain ⟨s0, s1, s2, s3, t0⟩ := HST.out.cells
  cases hi : inoZ d y with
  | none =>
    have HI : Hid (inoZ d y = none) := hi
    rw [hi] at hlook
    simp only [Option.isSome_none, Bool.false_eq_true, if_false] at hlook
    have HE2 := stat_put HST.out HK1.out (by omega) (.int .i64 0) (.int .i64 0) (.int .i64 0) (.int .i64 0)
    have HE2 : Hid (StatB ((((w1.setCell ⟨z, 0, none⟩ (.int .i64 0)).setCell ⟨z, 1, none⟩ (.int .i64 0)).setCell ⟨z, 2, none⟩ (.int .i64 0)).setCell ⟨z, 3, none⟩ (.int .i64 0)) z (.int .i64 0) (.int .i64 0) (.int .i64 0) (.int .i64 0) ∧ Below w.heap.size w ((((w1.setCell ⟨z, 0, none⟩ (.int .i64 0)).setCell ⟨z, 1, none⟩ (.int .i64 0)).setCell ⟨z, 2, none⟩ (.int .i64 0)).setCell ⟨z, 3, none⟩ (.int .i64 0))) := HE2
    clear h hL hc h1 k1 hw1 hz hy hi
    go_enter Try.func57, Try.ntmps57
    go_upto_region 1 with fail
    rw [HW1.out, HZ.out]
    clear HW1
    go_wp2
    refine bodyPost_ret (inode_res rfl (x := 143) rfl HE2.out.1) rfl ?_
    exact .inl ⟨HI.out, rfl, HE2.out.2⟩
  | some f =>
    have hy0 : 0 ≤ y := by
      unfold inoZ at hi
      by_cases h : 0 ≤ y
      · exact h
      · rw [if_neg h] at hi; cases hi
    obtain ⟨n, rfl⟩ : ∃ n : Nat, y = (n : Int) := ⟨y.toNat, by omega⟩
    have hf : d.ino n = some f := by unfold inoZ at hi; rw [if_pos hy0, Int.toNat_natCast] at hi; exact hi
    rw [hi] at hlook
    simp only [Option.isSome_some, if_true, Int.toNat_natCast] at hlook
    obtain ⟨q, hq, hse, hsz⟩ := Wf.labOf h.wf hf
    have HC : Hid (Calls Try.prog 36 #[.pointer (some ⟨B, 0, none⟩), .pointer (some ⟨L.ai n, 0, none⟩)] w1 fun e w' => e = .returned (statV n q.1 f.gen f.bs.length) ∧ Below w1.heap.size w1 w') := told_any hL hf hq (by unfold maxLen; omega)
    have HSE : Hid (ser d f.nm = q.1) := hse
    have HI : Hid (inoZ d (n : Nat) = some f) := hi
    unfold statV at HC
    clear h hL hc h1 k1 hw1 hz hy hi hf hq hse hsz hy0
    go_enter Try.func57, Try.ntmps57
    go_upto_region 1 with fail
    rw [HW1.out, HZ.out]
    clear HW1
    go_wp2_with fail
    refine HC.out.mono ?_
    rintro e w3 ⟨rfl, k3⟩
    have HST3 : Hid (StatB w3 z (.int .i64 0) (.int .i64 0) (.int .i64 0) (.int .i64 0)) := (k3.block z (Array.getElem?_eq_some_iff.1 HST.out).1).trans HST.out
    have HE2 := stat_put HST3.out (below_step HK1.out k3) (by have := HZ.out; omega) (.int .i64 (n : Nat)) (.int .i64 (q.1 : Nat)) (.int .i64 (f.gen : Nat)) (.int .i64 (f.bs.length : Nat))
    have HE2 : Hid (StatB ((((w3.setCell ⟨z, 0, none⟩ (.int .i64 (n : Nat))).setCell ⟨z, 1, none⟩ (.int .i64 (q.1 : Nat))).setCell ⟨z, 2, none⟩ (.int .i64 (f.gen : Nat))).setCell ⟨z, 3, none⟩ (.int .i64 (f.bs.length : Nat))) z (.int .i64 (n : Nat)) (.int .i64 (q.1 : Nat)) (.int .i64 (f.gen : Nat)) (.int .i64 (f.bs.length : Nat)) ∧ Below w.heap.size w ((((w3.setCell ⟨z, 0, none⟩ (.int .i64 (n : Nat))).setCell ⟨z, 1, none⟩ (.int .i64 (q.1 : Nat))).setCell ⟨z, 2, none⟩ (.int .i64 (f.gen : Nat))).setCell ⟨z, 3, none⟩ (.int .i64 (f.bs.length : Nat)))) := HE2
    clear s0 s1 s2 s3 t0
    obtain ⟨s0, s1, s2, s3, t0⟩ := HST3.out.cells
    clear k3 HC HK1 HST HST3
    go_wp2
    refine bodyPost_ret (inode_res rfl (x := 0) rfl HE2.out.1) rfl ?_
    refine .inr ⟨f, HI.out, ?_, HE2.out.2⟩
    rw [HSE.out, Int.toNat_natCast]
    rfl
/-- what Read answers where it is refused -/
def readE (d : Dk) (y g o s : Int) : Nat := if o < 0 ∨ s < 0 then 1 else match inoZ d y with
  | none => 143
  | some f => if (f.gen : Int) = g then 0 else 144
def ReadPost (d : Dk) (y g o s : Int) (w : World) (e : Ending) (w' : World) : Prop := (readE d y g o s ≠ 0 ∧ e = .returned (.tuple #[.slice none 0 0, .int .i64 (readE d y g o s : Nat)]) ∧ w' = w) ∨ (readE d y g o s = 0 ∧ ∃ f V, inoZ d y = some f ∧ 0 ≤ o ∧ 0 ≤ s ∧ e = .returned (.tuple #[V, .int .i64 0]) ∧ w'.ownsRow w.heap.size 5 1 V (Ino.cut f o.toNat s.toNat).length (uv (Ino.cut f o.toNat s.toNat)) ∧ Below w.heap.size w w')
set_option maxRecDepth 8000 in
set_option maxHeartbeats 800000 in
theorem read_any {P : Nat → Prop} {w : World} {B K : Nat} {d : Dk} (h : Dsk P w B d K) (y g o s : Int) (hy : goodI y) (ho : goodI o) (hs : goodI s) :
    Calls Try.prog 35 #[.pointer (some ⟨B, 0, none⟩), .int .i64 y, .int .i64 g, .int .i64 o, .int .i64 s] w (ReadPost d y g o s w) := by
  obtain ⟨L, hL, hc⟩ := h.m
  have hp1 : ∀ (p : Option Addr) (u : World), (binOp .eql 76 (.pointer p) (.pointer none)).run Try.prog u = .ok (.bool p.isNone) u := fun p u => run_eql_pointer_nil u _ p (by kernel_rfl)
  have hlook := hL.looki hy
  rw [Lay.inoZ] at hlook
  obtain ⟨c0, c1, c2⟩ := hL.cells
  unfold goodI at ho hs
  by_cases h1 : o < 0
  · have HR : Hid (readE d y g o s = 1) := by show _ = _; unfold readE; rw [if_pos (.inl h1)]
    clear h hL hc hlook
    go_enter Try.func35, Try.ntmps35
    go_wp2
    go_ret2
    exact .inl ⟨by rw [HR.out]; omega, by rw [HR.out]; rfl, rfl⟩
  by_cases h2 : s < 0
  · have HR : Hid (readE d y g o s = 1) := by show _ = _; unfold readE; rw [if_pos (.inr h2)]
    have hd1 : decide (o < 0) = false := decide_eq_false h1
    clear h hL hc hlook
    go_enter Try.func35, Try.ntmps35
    go_wp2
    go_ret2
    exact .inl ⟨by rw [HR.out]; omega, by rw [HR.out]; rfl, rfl⟩
  have hd1 : decide (o < 0) = false := decide_eq_false h1
  have hd2 : decide (s < 0) = false := decide_eq_false h2
  cases hi : inoZ d y with
  | none =>
    have HR : Hid (readE d y g o s = 143) := by show _ = _; unfold readE; rw [if_neg (by omega), hi]
    rw [hi] at hlook
    simp only [Option.isSome_none, Bool.false_eq_true, if_false] at hlook
    clear h hL hc hi
    go_enter Try.func35, Try.ntmps35
    go_wp2
    go_ret2
    exact .inl ⟨by rw [HR.out]; omega, by rw [HR.out]; rfl, rfl⟩
  | some f =>
    have hy0 : 0 ≤ y := by
      unfold inoZ at hi
      by_cases h : 0 ≤ y
      · exact h
      · rw [if_neg h] at hi; cases hi
    obtain ⟨n, rfl⟩ : ∃ n : Nat, y = (n : Int) := ⟨y.toNat, by omega⟩
    have hf : d.ino n = some f := by unfold inoZ at hi; rw [if_pos hy0, Int.toNat_natCast] at hi; exact hi
    rw [hi] at hlook
    simp only [Option.isSome_some, if_true, Int.toNat_natCast] at hlook
    have hib := hL.ib n f hf
    obtain ⟨i0, i1, i2, i3, i4⟩ := hib.cells
    obtain ⟨gn, hgn⟩ : ∃ gn, f.gen = gn := ⟨_, rfl⟩
    have hgl := (h.wf.ino n f hf).2.2.2.2.2.2
    have hkk := h.k
    rw [hgn] at i2 hgl
    by_cases hg : (gn : Int) = g
    · have HR : Hid (readE d (n : Nat) g o s = 0) := by show _ = _; unfold readE; rw [if_neg (by omega), hi]; simp only; rw [if_pos (by rw [hgn]; exact hg)]
      have hg2 : ((gn : Int) != g) = false := by rw [hg]; simp
      have HI : Hid (inoZ d (n : Nat) = some f) := hi
      obtain ⟨oo, rfl⟩ : ∃ oo : Nat, o = (oo : Int) := ⟨o.toNat, by omega⟩
      obtain ⟨ss, rfl⟩ : ∃ ss : Nat, s = (ss : Int) := ⟨s.toNat, by omega⟩
      have HC : Hid (Calls Try.prog 52 #[.pointer (some ⟨L.ai n, 0, none⟩), .int .i64 (oo : Nat), .int .i64 (ss : Nat)] w _) := piece_any hib (h.wf.ino n f hf).2.2.2.2.2.1 ho.2 hs.2
      clear h hL hc hi hf hib hgn hy hy0 hg hkk
      go_enter Try.func35, Try.ntmps35
      go_wp2_with fail
      refine HC.out.mono ?_
      rintro e w2 ⟨V, rfl, hV, hb⟩
      have HV : Hid (w2.ownsRow w.heap.size 5 1 V (Ino.cut f oo ss).length (uv (Ino.cut f oo ss))) := hV
      clear hV HC
      go_wp2
      go_ret2
      exact .inr ⟨HR.out, f, V, HI.out, by omega, by omega, rfl, HV.out, hb⟩
    · have HR : Hid (readE d (n : Nat) g o s = 144) := by show _ = _; unfold readE; rw [if_neg (by omega), hi]; simp only; rw [if_neg (by rw [hgn]; exact hg)]
      have hg2 : ((gn : Int) != g) = true := by simp; omega
      clear h hL hc hi hf hib hgn hy hy0
      go_enter Try.func35, Try.ntmps35
      go_wp2
      go_ret2
      exact .inl ⟨by rw [HR.out]; omega, by rw [HR.out]; rfl, rfl⟩
end Go.Proofs.Ytpikepifhnkmkaa
