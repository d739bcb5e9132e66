/- simfs: Stat, Inode, Read. -/
import Derived.Test.YtpikepifhnkmkaaG15
namespace Go.Proofs.Ytpikepifhnkmkaa
open Go.RowKit Go.Maps Sf
attribute [local go_sem ↓] Go.wp_at_zero Go.wp_at_succ

theorem stat_res {tmps : Array Value} {u : World} {z x : Nat} {a b c e : Value} (h4 : tmps[4]?.getD undef = .pointer (some ⟨z, 0, none⟩)) (h5 : tmps[5]?.getD undef = .int .i64 (x : Nat)) (h : StatB u z a b c e) : (results Try.f19 tmps).run Try.prog u = .ok (.tuple #[.agg #[a, b, c, e], .int .i64 (x : Nat)]) u := by
  have c0 : u.cell? ⟨z, 0, none⟩ = some a := by simp [World.cell?, show u.heap[z]? = _ from h]
  have c1 : u.cell? ⟨z, 1, none⟩ = some b := by simp [World.cell?, show u.heap[z]? = _ from h]
  have c2 : u.cell? ⟨z, 2, none⟩ = some c := by simp [World.cell?, show u.heap[z]? = _ from h]
  have c3 : u.cell? ⟨z, 3, none⟩ = some e := by simp [World.cell?, show u.heap[z]? = _ from h]
  simp [results, Try.results19, go_sem, h4, h5, c0, c1, c2, c3]
theorem inode_res {tmps : Array Value} {u : World} {z x : Nat} {a b c e : Value} (h4 : tmps[4]?.getD undef = .pointer (some ⟨z, 0, none⟩)) (h5 : tmps[5]?.getD undef = .int .i64 (x : Nat)) (h : StatB u z a b c e) : (results Try.f57 tmps).run Try.prog u = .ok (.tuple #[.agg #[a, b, c, e], .int .i64 (x : Nat)]) u := by
  have c0 : u.cell? ⟨z, 0, none⟩ = some a := by simp [World.cell?, show u.heap[z]? = _ from h]
  have c1 : u.cell? ⟨z, 1, none⟩ = some b := by simp [World.cell?, show u.heap[z]? = _ from h]
  have c2 : u.cell? ⟨z, 2, none⟩ = some c := by simp [World.cell?, show u.heap[z]? = _ from h]
  have c3 : u.cell? ⟨z, 3, none⟩ = some e := by simp [World.cell?, show u.heap[z]? = _ from h]
  simp [results, Try.results57, go_sem, h4, h5, c0, c1, c2, c3]
theorem stat_put {w w1 : World} {z : Nat} {x y v t : Value} (hst : StatB w1 z x y v t) (k1 : Below w.heap.size w w1) (hz : w.heap.size ≤ z) (a b c e : Value) :
    StatB ((((w1.setCell ⟨z, 0, none⟩ a).setCell ⟨z, 1, none⟩ b).setCell ⟨z, 2, none⟩ c).setCell ⟨z, 3, none⟩ e) z a b c e ∧ Below w.heap.size w ((((w1.setCell ⟨z, 0, none⟩ a).setCell ⟨z, 1, none⟩ b).setCell ⟨z, 2, none⟩ c).setCell ⟨z, 3, none⟩ e) := by
  have h := stat_set hst k1 hz a b c e
  exact ⟨h.1, h.2.os, h.2.tape, h.2.output, h.2.size, h.2.block⟩
theorem StatB.cells {u : World} {z : Nat} {a b c e : Value} (h : StatB u z a b c e) : u.cell? ⟨z, 0, none⟩ = some a ∧ u.cell? ⟨z, 1, none⟩ = some b ∧ u.cell? ⟨z, 2, none⟩ = some c ∧ u.cell? ⟨z, 3, none⟩ = some e ∧ ∀ j, u.frozen? ⟨z, j, none⟩ = false := by
  refine ⟨?_, ?_, ?_, ?_, fun j => ?_⟩
  all_goals simp [World.cell?, World.frozen?, show u.heap[z]? = _ from h]
def statOf (d : Dk) (n : Nat) : Value := match d.ino n with
  | some f => statV n (ser d f.nm) f.gen f.bs.length
  | none => statV 0 0 0 0
theorem ser_lab {d : Dk} {s : ByteArray} {q : Nat × Nat} (h : d.lab s = some q) : ser d s = q.1 := by unfold ser; rw [h]
theorem Wf.labOf {d : Dk} {K n : Nat} {f : Ino} (h : Wf d K) (hf : d.ino n = some f) : ∃ q, d.lab f.nm = some q ∧ ser d f.nm = q.1 ∧ f.nm.size ≤ 32 := by
  have h1 := h.ino n f hf
  obtain ⟨q, hq⟩ := num_some (d := d) (s := f.nm) (by omega)
  exact ⟨_, hq, ser_lab hq, (may_size h1.2.2.1).2⟩
set_option maxRecDepth 8000 in
set_option maxHeartbeats 800000 in
theorem stat_any {P : Nat → Prop} {w : World} {B K : Nat} {d : Dk} (h : Dsk P w B d K) (s : ByteArray) (hs : s.size ≤ maxLen) :
    Calls Try.prog 19 #[.pointer (some ⟨B, 0, none⟩), .string s] w fun e w' => e = .returned (.tuple #[statOf d (if err d s = 0 then num d s else 0), .int .i64 (err d s : Nat)]) ∧ Below w.heap.size w w' := by
  obtain ⟨w1, hw1⟩ : ∃ w1, w.alloc (.cells #[.int .i64 0, .int .i64 0, .int .i64 0, .int .i64 0] 64) = w1 := ⟨_, rfl⟩
  have k1 : Below w.heap.size w w1 := by rw [← hw1]; exact (Below.refl _ _).alloc (Nat.le_refl _) _
  have HW1 : Hid (w.alloc (.cells #[.int .i64 0, .int .i64 0, .int .i64 0, .int .i64 0] 64) = w1) := hw1
  obtain ⟨z, hz⟩ : ∃ z, w.heap.size = z := ⟨_, rfl⟩
  have HZ : Hid (w.heap.size = z) := hz
  have HST : Hid (StatB w1 z (.int .i64 0) (.int .i64 0) (.int .i64 0) (.int .i64 0)) := by rw [← hw1, ← hz]; exact heap_alloc_new w _
  have h1 := h.later k1
  obtain ⟨L, hL, hc⟩ := h1.m
  have HF : Hid (Calls Try.prog 24 #[.pointer (some ⟨B, 0, none⟩), .string s] w1 _) := dsk_file h1 hL s hs
  have HK1 : Hid (Below w.heap.size w w1) := k1
  have HD : Hid (DkAt P w1 B d L) := hL
  have hn0 : d.ino 0 = none := by
    cases x : d.ino 0 with
    | none => rfl
    | some f => have := (h.wf.ino 0 f x).1; omega
  rcases Nat.eq_zero_or_pos (err d s) with he | he
  · have hfv : fileV d L s = .pointer (some ⟨L.ai (num d s), 0, none⟩) := by unfold fileV; rw [if_pos he]
    obtain ⟨f, hf, hfn⟩ := h.wf.numF (err_zero he).2
    obtain ⟨q, hq, hse, hsz⟩ := Wf.labOf h.wf hf
    have HT : Hid (∀ u, DkAt P u B d L → Calls Try.prog 36 #[.pointer (some ⟨B, 0, none⟩), .pointer (some ⟨L.ai (num d s), 0, none⟩)] u fun e w' => e = .returned (statV (num d s) q.1 f.gen f.bs.length) ∧ Below u.heap.size u w') := fun u hu => told_any hu hf hq (by unfold maxLen; omega)
    have HE : Hid (statOf d (num d s) = statV (num d s) q.1 f.gen f.bs.length) := by show _ = _; unfold statOf; rw [hf, ← hse]
    rw [if_pos he]
    rw [hfv, he] at HF
    rw [he, HE.out]
    unfold statV at HT ⊢
    obtain ⟨n, hn⟩ : ∃ n, num d s = n := ⟨_, rfl⟩
    rw [hn] at HF HT ⊢
    clear h hL hc hs hfv hf hfn he hn h1 hq hse hsz k1 hw1 hz hn0 HE
    go_enter Try.func19, Try.ntmps19
    go_upto_region 1 with fail
    rw [HW1.out, HZ.out]
    clear HW1
    go_wp2_with fail
    refine HF.out.mono ?_
    rintro e w2 ⟨rfl, k2⟩
    have HC := HT.out w2 (HD.out.later k2)
    have HC : Hid (Calls Try.prog 36 #[.pointer (some ⟨B, 0, none⟩), .pointer (some ⟨L.ai n, 0, none⟩)] w2 _) := HC
    have HK2 : Hid (Below w.heap.size w w2) := below_step HK1.out k2
    have HST2 : Hid (StatB w2 z (.int .i64 0) (.int .i64 0) (.int .i64 0) (.int .i64 0)) := (k2.block z (Array.getElem?_eq_some_iff.1 HST.out).1).trans HST.out
    clear k2 HF HT HD HK1 HST
    go_wp2_with fail
    refine HC.out.mono ?_
    rintro e w3 ⟨rfl, k3⟩
    have HST3 : Hid (StatB w3 z (.int .i64 0) (.int .i64 0) (.int .i64 0) (.int .i64 0)) := (k3.block z (Array.getElem?_eq_some_iff.1 HST2.out).1).trans HST2.out
    have HE2 := stat_put HST3.out (below_step HK2.out k3) (by have := HZ.out; omega) (.int .i64 (n : Nat)) (.int .i64 (q.1 : Nat)) (.int .i64 (f.gen : Nat)) (.int .i64 (f.bs.length : Nat))
    have HE2 : Hid (StatB ((((w3.setCell ⟨z, 0, none⟩ (.int .i64 (n : Nat))).setCell ⟨z, 1, none⟩ (.int .i64 (q.1 : Nat))).setCell ⟨z, 2, none⟩ (.int .i64 (f.gen : Nat))).setCell ⟨z, 3, none⟩ (.int .i64 (f.bs.length : Nat))) z (.int .i64 (n : Nat)) (.int .i64 (q.1 : Nat)) (.int .i64 (f.gen : Nat)) (.int .i64 (f.bs.length : Nat)) ∧ Below w.heap.size w ((((w3.setCell ⟨z, 0, none⟩ (.int .i64 (n : Nat))).setCell ⟨z, 1, none⟩ (.int .i64 (q.1 : Nat))).setCell ⟨z, 2, none⟩ (.int .i64 (f.gen : Nat))).setCell ⟨z, 3, none⟩ (.int .i64 (f.bs.length : Nat)))) := HE2
    obtain ⟨s0, s1, s2, s3, t0⟩ := HST3.out.cells
    clear k3 HC HK2 HST2 HST3
    go_wp2
    refine bodyPost_ret (stat_res rfl (x := 0) rfl HE2.out.1) rfl ?_
    exact ⟨rfl, HE2.out.2⟩
  · obtain ⟨x, hx⟩ : ∃ x, err d s = x := ⟨_, rfl⟩
    have hfv : fileV d L s = .pointer none := by unfold fileV; rw [if_neg (by omega)]
    have HE : Hid (statOf d 0 = statV 0 0 0 0) := by show _ = _; unfold statOf; rw [hn0]
    rw [if_neg (by omega), HE.out]
    rw [hfv, hx] at HF
    have hne : ((x : Int) != 0) = true := by simp; omega
    rw [hx]
    unfold statV
    clear h hL hc hs hfv hx h1 k1 hw1 hz hn0 HE he
    go_enter Try.func19, Try.ntmps19
    go_upto_region 1 with fail
    rw [HW1.out, HZ.out]
    clear HW1
    go_wp2_with fail
    refine HF.out.mono ?_
    rintro e w2 ⟨rfl, k2⟩
    have HST2 : Hid (StatB w2 z (.int .i64 0) (.int .i64 0) (.int .i64 0) (.int .i64 0)) := (k2.block z (Array.getElem?_eq_some_iff.1 HST.out).1).trans HST.out
    have HE2 := stat_put HST2.out (below_step HK1.out k2) (by have := HZ.out; omega) (.int .i64 0) (.int .i64 0) (.int .i64 0) (.int .i64 0)
    have HE2 : Hid (StatB ((((w2.setCell ⟨z, 0, none⟩ (.int .i64 0)).setCell ⟨z, 1, none⟩ (.int .i64 0)).setCell ⟨z, 2, none⟩ (.int .i64 0)).setCell ⟨z, 3, none⟩ (.int .i64 0)) z (.int .i64 0) (.int .i64 0) (.int .i64 0) (.int .i64 0) ∧ Below w.heap.size w ((((w2.setCell ⟨z, 0, none⟩ (.int .i64 0)).setCell ⟨z, 1, none⟩ (.int .i64 0)).setCell ⟨z, 2, none⟩ (.int .i64 0)).setCell ⟨z, 3, none⟩ (.int .i64 0))) := HE2
    obtain ⟨s0, s1, s2, s3, t0⟩ := HST2.out.cells
    clear k2 HF HK1 HST HST2 HD
    go_wp2
    refine bodyPost_ret (stat_res rfl (x := x) rfl HE2.out.1) rfl ?_
    exact ⟨rfl, HE2.out.2⟩
end Go.Proofs.Ytpikepifhnkmkaa
