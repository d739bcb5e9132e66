/- (*simfs.Disk).drop, arrive. -/
import Derived.Test.YtpikepifhnkmkaaG11
namespace Go.Proofs.Ytpikepifhnkmkaa
open Go.RowKit Go.Maps Sf
attribute [local go_sem ↓] Go.wp_at_zero Go.wp_at_succ

/-- a disk in memory, its maps of at most so many entries -/
def DkS (P : Nat → Prop) (w : World) (B : Nat) (d : Dk) (c : Nat) : Prop := ∃ L, DkAt P w B d L ∧ L.ci ≤ c ∧ L.cn ≤ c
/-- what a call leaves -/
def DkTo (P : Nat → Prop) (w : World) (B : Nat) (d : Dk) (c : Nat) (u : World) : Prop := DkS (More P w u) u B d c ∧ FrP P w u
section
variable {P : Nat → Prop} {w u v : World} {B c c' : Nat} {d d' : Dk} {L : Lay}
theorem DkAt.less (h : DkAt (More (More P w u) u v) v B d L) (h1 : w.heap.size ≤ u.heap.size) (h2 : u.heap.size ≤ v.heap.size) (hp : ∀ k, P k → k < w.heap.size) : DkAt (More P w v) v B d L :=
  h.mono (fun k hk => by
    rcases hk with (hk | hk) | hk
    · exact .inl hk
    · exact .inr ⟨hk.1, by omega⟩
    · exact .inr ⟨by omega, hk.2⟩) (fun k hk => by
    rcases hk with hk | hk
    · have := hp k hk; omega
    · exact hk.2)
theorem frp_more (h1 : FrP P w u) (h2 : FrP (More P w u) u v) : FrP P w v := h1.trans h2 (fun k hk hm => by rcases hm with hm | hm; exact hm; omega)
theorem DkTo.trans (hp : ∀ k, P k → k < w.heap.size) (h1 : FrP P w u) (h2 : DkTo (More P w u) u B d c v) : DkTo P w B d c v := by
  obtain ⟨⟨L, h3, h4⟩, h5⟩ := h2
  exact ⟨⟨L, h3.less h1.size h5.size hp, h4⟩, frp_more h1 h5⟩
theorem frp_low {Q : Nat → Prop} (h : FrP Q w u) (hq : ∀ k, k < w.heap.size → Q k → P k) : FrP P w u := h.mono hq
theorem DkAt.drew (h : DkAt P w B d L) : DkAt P w.drew B d L := h.later ⟨rfl, rfl, rfl, Nat.le_refl _, fun _ _ => rfl⟩
theorem FrP.drew {Q : Nat → Prop} (h : FrP Q w u) : FrP Q w u.drew := ⟨h.os, h.tape, h.output, h.size, h.block⟩
end
set_option maxRecDepth 8000 in
set_option maxHeartbeats 800000 in
theorem drop_any {P : Nat → Prop} {w : World} {B : Nat} {d : Dk} {L : Lay} (h : DkAt P w B d L) {n : Nat} {f : Ino} (hf : d.ino n = some f) {q : Nat × Nat} (hq : d.lab f.nm = some q) (hs : f.nm.size ≤ maxLen) (hn : n < 4611686018427387904) :
    Calls Try.prog 26 #[.pointer (some ⟨B, 0, none⟩), .pointer (some ⟨L.ai n, 0, none⟩)] w fun e w' => e = .returned (.tuple #[]) ∧ DkAt (More P w w') w' B (Sf.drop d n f) L ∧ FrP P w w' := by
  obtain ⟨c0, c1, c2⟩ := h.cells
  have hi := h.ib n f hf
  have hl := h.lb f.nm q hq
  obtain ⟨i0, i1, i2, i3, i4⟩ := hi.cells
  obtain ⟨l0, l1⟩ := hl.cells
  have q1 := hl.frozen 1
  have e2 : (L.lab d f.nm).getD (.pointer none) = .pointer (some ⟨L.an f.nm, 0, none⟩) := by unfold Lay.lab; rw [hq]; rfl
  have hlook := h.drew.look hs
  rw [e2] at hlook
  obtain ⟨w2, hw2⟩ : ∃ w2, (w.setCell ⟨L.an f.nm, 1, none⟩ (.int .i64 0)).drew = w2 := ⟨_, rfl⟩
  have hfr : FrP (fun k => k = L.an f.nm) w w2 := by rw [← hw2]; exact (FrP.set (FrP.refl (fun k => k = L.an f.nm) w) (fun _ => rfl) 1 _).drew
  have h2 : DkAt (More P w w2) w2 B (Sf.putL d f.nm q.1 0) L := h.putL (q' := (q.1, 0)) hq (by rw [← hw2]; exact hl.put1 0) hfr
  have HFR : Hid (FrP P w w2) := hfr.mono (fun k _ e => by subst e; exact h.pL _ _ hq)
  obtain ⟨c0', c1', c2'⟩ := h2.cells
  obtain ⟨i0', _, _, _, _⟩ := (h2.ib n f hf).cells
  obtain ⟨w3, hrun, hm3, hg3, hs3⟩ := h2.drew.im.del lawI (mt := 59) (e := 76) (by kernel_rfl) (k := (n : Int)) (by unfold goodI; omega) keyI kvI_inj 0
  have hrun : (Builtin.delete_ #[59, 3] 0 #[.map (some L.mi), .int .i64 (n : Nat)]).run Try.prog w2.drew = .ok (.tuple #[]) w3 := hrun
  have hfr3 : FrP (fun k => k = L.mi) w2 w3 := ⟨hg3.os, hg3.tape, hg3.output, hg3.size, fun k hk hn => hg3.block k hk (fun e => hn (by cases e; rfl))⟩
  have h3 := h2.delI (n := n) hm3 hfr3
  have HE : Hid (DkAt (More P w w3) w3 B (Sf.drop d n f) L ∧ FrP P w w3) := by
    refine ⟨?_, frp_more HFR.out (hfr3.mono (fun k _ e => by subst e; exact h2.pB.2.1))⟩
    have := h3.less hfr.size hfr3.size h.low
    unfold Sf.drop Sf.ser
    rw [hq]
    exact this
  have HW2 : Hid ((w.setCell ⟨L.an f.nm, 1, none⟩ (.int .i64 0)).drew = w2) := hw2
  clear h hf hq hi hl hfr h2 HFR hm3 hg3 hs3 hfr3 h3 e2 hw2
  go_enter Try.func26, Try.ntmps26
  go_wp2_with fail
  go_region
  rw [HW2.out]
  clear HW2 c0 c1 c2 i0 i1 i2 i3 i4 l0 l1 q1 hlook
  go_wp2_with fail
  go_region
  go_wp2
  first | go_end0 | (simp only [Exit.inBlock, Exit.then]; refine bodyPost_ret (results_none rfl _ _ _) rfl ?_) | refine bodyPost_ret (results_none rfl _ _ _) rfl ?_
  exact ⟨rfl, HE.out⟩
end Go.Proofs.Ytpikepifhnkmkaa
