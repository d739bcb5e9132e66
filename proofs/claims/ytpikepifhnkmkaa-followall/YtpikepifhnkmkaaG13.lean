/- (*simfs.Disk).arrive. -/
import Derived.Test.YtpikepifhnkmkaaG12
namespace Go.Proofs.Ytpikepifhnkmkaa
open Go.RowKit Go.Maps Sf
attribute [local go_sem ↓] Go.wp_at_zero Go.wp_at_succ

theorem putL_putL (d : Dk) (s : ByteArray) (a b c e : Nat) : Sf.putL (Sf.putL d s a b) s c e = Sf.putL d s c e := by
  unfold Sf.putL
  congr 1
  funext t
  by_cases h : t = s <;> simp [h]
/-- the label is there: serial, inode and the inode's name are stored -/
theorem arr_tail {P : Nat → Prop} {u : World} {B : Nat} {d : Dk} {L : Lay} (h : DkAt P u B d L) {n : Nat} {f : Ino} (hf : d.ino n = some f) {s : ByteArray} {q : Nat × Nat} (hq : d.lab s = some q) :
    ∃ L', DkAt (More P u (((u.setCell ⟨L.an s, 0, none⟩ (.int .i64 ((q.1 + 1 : Nat) : Nat))).setCell ⟨L.an s, 1, none⟩ (.int .i64 (n : Nat))).setCell ⟨L.ai n, 1, none⟩ (.string s))) (((u.setCell ⟨L.an s, 0, none⟩ (.int .i64 ((q.1 + 1 : Nat) : Nat))).setCell ⟨L.an s, 1, none⟩ (.int .i64 (n : Nat))).setCell ⟨L.ai n, 1, none⟩ (.string s)) B (Sf.putI (Sf.putL d s (q.1 + 1) n) n (some (f.name s))) L' ∧ L'.ci = L.ci ∧ L'.cn = L.cn ∧ FrP P u (((u.setCell ⟨L.an s, 0, none⟩ (.int .i64 ((q.1 + 1 : Nat) : Nat))).setCell ⟨L.an s, 1, none⟩ (.int .i64 (n : Nat))).setCell ⟨L.ai n, 1, none⟩ (.string s)) := by
  have hl := h.lb s q hq
  obtain ⟨u2, hu2⟩ : ∃ u2, (u.setCell ⟨L.an s, 0, none⟩ (.int .i64 ((q.1 + 1 : Nat) : Nat))).setCell ⟨L.an s, 1, none⟩ (.int .i64 (n : Nat)) = u2 := ⟨_, rfl⟩
  have hfr : FrP (fun k => k = L.an s) u u2 := by rw [← hu2]; exact FrP.set (FrP.set (FrP.refl (fun k => k = L.an s) u) (fun _ => rfl) 0 _) (fun _ => rfl) 1 _
  have h2 : DkAt (More P u u2) u2 B (Sf.putL d s (q.1 + 1) n) L := h.putL (q' := (q.1 + 1, n)) hq (by rw [← hu2]; exact (hl.put0 (q.1 + 1)).put1 n) hfr
  rw [hu2]
  have hi := h2.ib n f hf
  obtain ⟨u3, hu3⟩ : ∃ u3, u2.setCell ⟨L.ai n, 1, none⟩ (.string s) = u3 := ⟨_, rfl⟩
  have hi3 : InoAt u3 (L.ai n) n (f.name s) (L.vi n) := by rw [← hu3]; exact hi.set 1 _ (by simp [inoC, Ino.name]) hi.v
  have hfr3 : FrP (fun k => k = L.ai n ∨ (L.vi n).ownBlock = some k) u2 u3 := by rw [← hu3]; exact FrP.set (FrP.refl _ u2) (fun _ => .inl rfl) 1 _
  have h3 := h2.putI hf hi3 (fun b hb => .inl hb) hfr3
  rw [hu3]
  refine ⟨_, h3.less hfr.size hfr3.size h.low, rfl, rfl, frp_more (hfr.mono (fun k _ e => by subst e; exact h.pL s q hq)) (hfr3.mono (fun k _ e => ?_))⟩
  rcases e with e | e
  · subst e; exact (h2.pI n f hf).1
  · exact (h2.pI n f hf).2 k e
set_option maxRecDepth 8000 in
set_option maxHeartbeats 800000 in
theorem arrive_any {P : Nat → Prop} {w : World} {B : Nat} {d : Dk} {L : Lay} (h : DkAt P w B d L) {n : Nat} {f : Ino} (hf : d.ino n = some f) (s : ByteArray) (hs : s.size ≤ 4096) (hser : ser d s < 4611686018427387904) (hc : L.cn < 4611686018427387904) :
    Calls Try.prog 27 #[.pointer (some ⟨B, 0, none⟩), .pointer (some ⟨L.ai n, 0, none⟩), .string s] w fun e w' => e = .returned (.tuple #[]) ∧ ∃ L', DkAt (More P w w') w' B (Sf.arrive d n f s) L' ∧ L'.ci = L.ci ∧ L'.cn ≤ L.cn + 1 ∧ FrP P w w' := by
  have HC : Hid (Calls Try.prog 22 #[.string s] w _) := sclone_any s w (by omega)
  have hsm : s.size ≤ maxLen := by unfold maxLen; omega
  have hp1 : ∀ (p : Option Addr) (u : World), (binOp .eql 83 (.pointer p) (.pointer none)).run Try.prog u = .ok (.bool p.isNone) u := fun p u => run_eql_pointer_nil u _ p (by kernel_rfl)
  have HD : Hid (DkAt P w B d L) := h
  cases hl : d.lab s with
  | some q =>
    have HH : Hid (d.ino n = some f ∧ d.lab s = some q) := ⟨hf, hl⟩
    have e2 : (L.lab d s).getD (.pointer none) = .pointer (some ⟨L.an s, 0, none⟩) := by unfold Lay.lab; rw [hl]; rfl
    have e3 : ser d s = q.1 := by unfold ser; rw [hl]
    have HL2 : Hid (∀ u, DkAt P u B d L → (Instr.lookup 60 (.map (some L.mn)) (.string s) false).run Try.prog u = .ok (.pointer (some ⟨L.an s, 0, none⟩)) u) := fun u hu => by have := hu.look hsm; rw [e2] at this; exact this
    rw [e3] at hser
    have HAR : Hid (Sf.arrive d n f s = Sf.putI (Sf.putL d s (q.1 + 1) n) n (some (f.name s))) := by show _ = _; unfold Sf.arrive; rw [e3]
    clear h hf hl e2 e3
    go_enter Try.func27, Try.ntmps27
    go_wp2_with fail
    refine HC.out.mono ?_
    rintro e w1 ⟨rfl, k1⟩
    have HK1 : Hid (Below w.heap.size w w1) := k1
    have h1 := HD.out.later k1
    have hlook := HL2.out w1 h1
    obtain ⟨c0, c1, c2⟩ := h1.cells
    have hlb := h1.lb s q HH.out.2
    have hib := h1.ib n f HH.out.1
    obtain ⟨l0, l1⟩ := hlb.cells
    obtain ⟨i0, i1, i2, i3, i4⟩ := hib.cells
    have q0 := hlb.frozen 0
    have q1 := hlb.frozen 1
    have qi := hib.frozen 1
    have HNE : Hid (L.an s ≠ L.ai n) := fun e => by
      have t1 := hlb.ty
      rw [e] at t1
      exact absurd (TyB.ne t1 hib.ty) (by decide)
    have HT := arr_tail h1 HH.out.1 HH.out.2
    have hne1 : L.an s ≠ L.ai n := HNE.out
    have hne2 : L.ai n ≠ L.an s := fun e => hne1 e.symm
    have HT : Hid (∃ L', DkAt (More P w1 (((w1.setCell ⟨L.an s, 0, none⟩ (.int .i64 ((q.1 : Int) + 1))).setCell ⟨L.an s, 1, none⟩ (.int .i64 (n : Nat))).setCell ⟨L.ai n, 1, none⟩ (.string s))) (((w1.setCell ⟨L.an s, 0, none⟩ (.int .i64 ((q.1 : Int) + 1))).setCell ⟨L.an s, 1, none⟩ (.int .i64 (n : Nat))).setCell ⟨L.ai n, 1, none⟩ (.string s)) B (Sf.putI (Sf.putL d s (q.1 + 1) n) n (some (f.name s))) L' ∧ L'.ci = L.ci ∧ L'.cn = L.cn ∧ FrP P w1 (((w1.setCell ⟨L.an s, 0, none⟩ (.int .i64 ((q.1 : Int) + 1))).setCell ⟨L.an s, 1, none⟩ (.int .i64 (n : Nat))).setCell ⟨L.ai n, 1, none⟩ (.string s))) := HT
    have HF : Hid (∀ u, (∃ L', DkAt (More P w1 u) u B (Sf.putI (Sf.putL d s (q.1 + 1) n) n (some (f.name s))) L' ∧ L'.ci = L.ci ∧ L'.cn = L.cn ∧ FrP P w1 u) → ∃ L', DkAt (More P w u) u B (Sf.arrive d n f s) L' ∧ L'.ci = L.ci ∧ L'.cn ≤ L.cn + 1 ∧ FrP P w u) := fun u hu => by
      obtain ⟨L', a1, a2, a3, a4⟩ := hu
      refine ⟨L', ?_, a2, by omega, ?_⟩
      · rw [HAR.out]
        exact a1.mono (fun k hk => by rcases hk with hk | hk; exact .inl hk; exact .inr ⟨by have := HK1.out.size; omega, hk.2⟩) (fun k hk => by rcases hk with hk | hk; have := HD.out.low k hk; have := HK1.out.size; have := a4.size; omega; exact hk.2)
      · exact (FrP.of_below P HK1.out).trans a4 (fun k _ h => h)
    clear k1 h1 hlb hib HNE HC HL2 HH HAR HD
    go_wp2_with fail
    first | go_end0 | (simp only [Exit.inBlock, Exit.then]; refine bodyPost_ret (results_none rfl _ _ _) rfl ?_) | refine bodyPost_ret (results_none rfl _ _ _) rfl ?_
    exact ⟨rfl, HF.out _ HT.out⟩
  | none =>
    have HH : Hid (d.ino n = some f ∧ d.lab s = none) := ⟨hf, hl⟩
    have e2 : (L.lab d s).getD (.pointer none) = .pointer none := by unfold Lay.lab; rw [hl]; rfl
    have HL2 : Hid (∀ u, DkAt P u B d L → (Instr.lookup 60 (.map (some L.mn)) (.string s) false).run Try.prog u = .ok (.pointer none) u) := fun u hu => by have := hu.look hsm; rw [e2] at this; exact this
    have HAR : Hid (Sf.arrive d n f s = Sf.putI (Sf.putL (Sf.putL d s 0 0) s (0 + 1) n) n (some (f.name s))) := by
      show _ = _
      unfold Sf.arrive Sf.ser
      rw [hl, putL_putL]
    clear h hf hl e2 hser
    go_enter Try.func27, Try.ntmps27
    go_wp2_with fail
    refine HC.out.mono ?_
    rintro e w1 ⟨rfl, k1⟩
    have HK1 : Hid (Below w.heap.size w w1) := k1
    have h1 := HD.out.later k1
    have hlook := HL2.out w1 h1
    obtain ⟨c0, c1, c2⟩ := h1.cells
    obtain ⟨A, hA⟩ : ∃ A, w1.heap.size = A := ⟨_, rfl⟩
    obtain ⟨w2, hw2⟩ : ∃ w2, w1.alloc (.cells #[.int .i64 0, .int .i64 0] 82) = w2 := ⟨_, rfl⟩
    have k2 : Below w1.heap.size w1 w2 := by rw [← hw2]; exact (Below.refl _ _).alloc (Nat.le_refl _) _
    have lA : LabAt w2 A (0, 0) := by rw [← hw2, ← hA]; exact heap_alloc_new w1 _
    have h2 := h1.later k2
    obtain ⟨d0, d1, d2⟩ := h2.cells
    obtain ⟨w3, hrun, hm3, hg3, hs3⟩ := h2.nm.put lawS (mt := 60) (e := 83) (by kernel_rfl) (by unfold maxLen; omega) (k := s) hsm keyS kvS_inj (.pointer (some ⟨A, 0, none⟩))
    have hrun : (Instr.mapUpdate 60 (.map (some L.mn)) (.string s) (.pointer (some ⟨A, 0, none⟩))).run Try.prog w2 = .ok () w3 := hrun
    have hmA : A ≠ L.mn := by have := h1.low _ h1.pB.2.2; omega
    have lA3 : LabAt w3 A (0, 0) := (hg3.block A lA.lt (fun e => hmA (by cases e; rfl))).trans lA
    have hfr3 : FrP (fun k => k = L.mn) w1 w3 := (FrP.of_below (fun k => k = L.mn) k2).grown hg3 (fun k _ e => by cases e; rfl)
    have h3 := h1.addL (s := s) (q := (0, 0)) (a := A) HH.out.2 lA3 (by omega) hm3 hfr3
    have HF3 : Hid (FrP P w1 w3) := hfr3.mono (fun k _ e => by subst e; exact h1.pB.2.2)
    have hq3 : (Sf.putL d s 0 0).lab s = some (0, 0) := by simp [Sf.putL]
    have hf3 : (Sf.putL d s 0 0).ino n = some f := HH.out.1
    have HT := arr_tail h3 hf3 hq3
    have hlb := h3.lb s (0, 0) hq3
    have hib := h3.ib n f hf3
    simp only [if_pos] at HT hlb
    obtain ⟨l0, l1⟩ := hlb.cells
    obtain ⟨i0, i1, i2, i3, i4⟩ := hib.cells
    have q0 := hlb.frozen 0
    have q1 := hlb.frozen 1
    have qi := hib.frozen 1
    have hne1 : A ≠ L.ai n := fun e => by
      have t1 := hlb.ty
      rw [e] at t1
      exact absurd (TyB.ne t1 hib.ty) (by decide)
    have hne2 : L.ai n ≠ A := fun e => hne1 e.symm
    have HT : Hid (∃ L', DkAt (More (More P w1 w3) w3 (((w3.setCell ⟨A, 0, none⟩ (.int .i64 1)).setCell ⟨A, 1, none⟩ (.int .i64 (n : Nat))).setCell ⟨L.ai n, 1, none⟩ (.string s))) (((w3.setCell ⟨A, 0, none⟩ (.int .i64 1)).setCell ⟨A, 1, none⟩ (.int .i64 (n : Nat))).setCell ⟨L.ai n, 1, none⟩ (.string s)) B (Sf.putI (Sf.putL (Sf.putL d s 0 0) s (0 + 1) n) n (some (f.name s))) L' ∧ L'.ci = L.ci ∧ L'.cn = L.cn + 1 ∧ FrP (More P w1 w3) w3 (((w3.setCell ⟨A, 0, none⟩ (.int .i64 1)).setCell ⟨A, 1, none⟩ (.int .i64 (n : Nat))).setCell ⟨L.ai n, 1, none⟩ (.string s))) := HT
    have HF : Hid (∀ u, (∃ L', DkAt (More (More P w1 w3) w3 u) u B (Sf.putI (Sf.putL (Sf.putL d s 0 0) s (0 + 1) n) n (some (f.name s))) L' ∧ L'.ci = L.ci ∧ L'.cn = L.cn + 1 ∧ FrP (More P w1 w3) w3 u) → ∃ L', DkAt (More P w u) u B (Sf.arrive d n f s) L' ∧ L'.ci = L.ci ∧ L'.cn ≤ L.cn + 1 ∧ FrP P w u) := fun u hu => by
      obtain ⟨L', a1, a2, a3, a4⟩ := hu
      have a5 := a1.less hfr3.size a4.size (fun k hk => Nat.lt_of_lt_of_le (HD.out.low k hk) HK1.out.size)
      have a6 := frp_more HF3.out a4
      refine ⟨L', ?_, a2, by omega, ?_⟩
      · rw [HAR.out]
        exact a5.mono (fun k hk => by rcases hk with hk | hk; exact .inl hk; exact .inr ⟨by have := HK1.out.size; omega, hk.2⟩) (fun k hk => by rcases hk with hk | hk; have := HD.out.low k hk; have := HK1.out.size; have := a6.size; omega; exact hk.2)
      · exact (FrP.of_below P HK1.out).trans a6 (fun k _ h => h)
    have HW2 : Hid (w1.alloc (.cells #[.int .i64 0, .int .i64 0] 82) = w2 ∧ w1.heap.size = A) := ⟨hw2, hA⟩
    clear k1 h1 hlb hib HC HL2 HH HAR HD k2 lA h2 hm3 hg3 hs3 lA3 hfr3 h3 HF3 hq3 hf3 hw2 hA HK1
    go_upto_region 4 with fail
    rw [HW2.out.1, HW2.out.2]
    clear HW2 c0 c1 c2 hlook
    go_wp2_with fail
    first | go_end0 | (simp only [Exit.inBlock, Exit.then]; refine bodyPost_ret (results_none rfl _ _ _) rfl ?_) | refine bodyPost_ret (results_none rfl _ _ _) rfl ?_
    exact ⟨rfl, HF.out _ HT.out⟩
end Go.Proofs.Ytpikepifhnkmkaa
