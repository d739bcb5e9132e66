/- A disk and a follower apart from each other. -/
import Derived.Test.YtpikepifhnkmkaaG47
namespace Go.Proofs.Ytpikepifhnkmkaa
open Go.RowKit Go.Maps Sf Ln Fo
attribute [local go_sem ↓] Go.wp_at_zero Go.wp_at_succ

theorem lo_step {P : Nat → Prop} {w u v : World} (h : Below w.heap.size w u) (hf : FrP P u v) (hp : ∀ k, P k → w.heap.size ≤ k) : Below w.heap.size w v ∧ ∀ k, More P u v k → w.heap.size ≤ k := by
  refine ⟨⟨hf.os.trans h.os, hf.tape.trans h.tape, hf.output.trans h.output, Nat.le_trans h.size hf.size, fun k hk => (hf.block k (Nat.lt_of_lt_of_le hk h.size) (fun x => by have := hp k x; omega)).trans (h.block k hk)⟩, fun k hk => ?_⟩
  rcases hk with hk | hk
  · exact hp k hk
  · have := h.size; omega
structure FoS (w0 : World) (Pd : Nat → Prop) (Bd F B : Nat) (d : Dk) (f : Fo) (K C : Nat) (u : World) : Prop where
  dk : Dsk Pd u Bd d K
  fo : ∃ V, FoAt u F B V f ∧ ∀ b, V.ownBlock = some b → w0.heap.size ≤ b ∧ ¬ Pd b
  nf : w0.heap.size ≤ F ∧ w0.heap.size ≤ B ∧ ¬ Pd F ∧ ¬ Pd B
  ok : f.Ok C
  lo : Below w0.heap.size w0 u
  hd : ∀ k, Pd k → w0.heap.size ≤ k
  c : C ≤ 1000000
/-- blocks of these types stand behind a step -/
def Bxs (u v : World) : Prop := ∀ (t : TypeId) (k : Nat), TyB u t k → t ≠ 75 → t ≠ 96 → t ≠ 5 → v.heap[k]? = u.heap[k]?
section
variable {w0 u v : World} {Pd : Nat → Prop} {Bd F B K C : Nat} {d d' : Dk} {f f' : Fo}
theorem FoS.later (h : FoS w0 Pd Bd F B d f K C u) (hb : Below u.heap.size u v) : FoS w0 Pd Bd F B d f K C v := by
  obtain ⟨V, h1, h2⟩ := h.fo
  exact ⟨h.dk.later hb, ⟨V, h1.later hb, h2⟩, h.nf, h.ok, below_step h.lo hb, h.hd, h.c⟩
theorem FoS.to (h : FoS w0 Pd Bd F B d f K C u) {V : Value} (hv : FoAt u F B V f) (ht : FTo F B V f' u v) (hok : f'.Ok (C + 1)) (hC : C < 1000000) : FoS w0 Pd Bd F B d f' K (C + 1) v ∧ Bxs u v := by
  obtain ⟨V0, h1, h2⟩ := h.fo
  obtain rfl : V = V0 := hv.same h1
  obtain ⟨V', a1, a2, a3⟩ := ht
  have hlow := h.dk.m.low
  refine ⟨⟨h.dk.keep (fun k hk => a3.block k (hlow k hk) (fun e => ?_)) a3.size, ⟨V', a1, fun b hb => ?_⟩, h.nf, hok, ?_, h.hd, by omega⟩, fun t k hk n1 n2 n3 => ?_⟩
  · rcases e with e | e | e
    · subst e; exact h.nf.2.2.1 hk
    · subst e; exact h.nf.2.2.2 hk
    · exact (h2 k e).2 hk
  · rcases a2 b hb with e | e
    · exact h2 b e
    · exact ⟨Nat.le_trans h.lo.size e, fun hp => by have := hlow b hp; omega⟩
  · exact ⟨a3.os.trans h.lo.os, a3.tape.trans h.lo.tape, a3.output.trans h.lo.output, Nat.le_trans h.lo.size a3.size, fun k hk => (a3.block k (Nat.lt_of_lt_of_le hk h.lo.size) (fun e => by
      rcases e with e | e | e
      · have := h.nf.1; omega
      · have := h.nf.2.1; omega
      · have := (h2 k e).1; omega)).trans (h.lo.block k hk)⟩
  · obtain ⟨c, z, hc⟩ := hk
    refine a3.block k (Array.getElem?_eq_some_iff.1 hc).1 (fun e => ?_)
    rcases e with e | e | e
    · subst e; exact n1 (TyB.ne ⟨c, z, hc⟩ hv.b.ty)
    · subst e; exact n2 (TyB.ne ⟨c, z, hc⟩ hv.m.b.ty)
    · exact n3 (TyB.ne ⟨c, z, hc⟩ (hv.m.o.ty e).1)
/-- Step, as a law calls it -/
theorem FoS.step (h : FoS w0 Pd Bd F B d f K C u) (hC : C < 1000000) : Calls Try.prog 11 #[.pointer (some ⟨F, 0, none⟩), .pointer (some ⟨Bd, 0, none⟩)] u fun e v => e = .returned (.tuple #[lineV ((f.line d).map fun t => (f.m, t)), .bool (f.line d).isSome]) ∧ FoS w0 Pd Bd F B d (f.step d) K (C + 1) v ∧ Bxs u v := by
  obtain ⟨V, h1, h2⟩ := h.fo
  refine (fstep_fn h1 h.ok (by have := h.c; omega) h.dk).mono fun e v x => ⟨x.1, ?_⟩
  exact h.to h1 x.2 (step_ok h.ok h.dk.wf h.dk.k) hC
theorem FoS.mark (h : FoS w0 Pd Bd F B d f K C u) : Calls Try.prog 13 #[.pointer (some ⟨F, 0, none⟩)] u fun e v => e = .returned (mrkBox f.m) ∧ Below u.heap.size u v := by
  obtain ⟨V, h1, h2⟩ := h.fo
  exact mark_fn h1
theorem FoS.held (h : FoS w0 Pd Bd F B d f K C u) : Calls Try.prog 16 #[.pointer (some ⟨F, 0, none⟩)] u fun e v => e = .returned (.int .i64 (f.k.held.length : Nat)) ∧ v = u := by
  obtain ⟨V, h1, h2⟩ := h.fo
  exact held_at h1
/-- the disk is written to -/
theorem FoS.does (h : FoS w0 Pd Bd F B d f K C u) (hd : DkTo Pd u Bd d' (K + 1) v) (hw : Wf d' (K + 1)) (hK : K < 1000000) : FoS w0 (More Pd u v) Bd F B d' f (K + 1) C v ∧ ∀ k, k < u.heap.size → ¬ Pd k → v.heap[k]? = u.heap[k]? ∧ ¬ More Pd u v k := by
  obtain ⟨V, h1, h2⟩ := h.fo
  have hm : ∀ k, k < u.heap.size → ¬ Pd k → v.heap[k]? = u.heap[k]? ∧ ¬ More Pd u v k := fun k hk hn => ⟨hd.2.block k hk hn, fun e => by
    rcases e with e | e
    · exact hn e
    · omega⟩
  have hl := lo_step h.lo hd.2 h.hd
  refine ⟨⟨hd.dsk hw hK, ⟨V, ⟨(hm F h1.b.lt h.nf.2.2.1).1.trans h1.b, h1.m.b.same (hm B h1.m.b.lt h.nf.2.2.2).1, h1.m.o.keep fun b hb hl => (hm b hl (h2 b hb).2).1⟩, fun b hb => ⟨(h2 b hb).1, (hm b (h1.m.o.ty hb).2 (h2 b hb).2).2⟩⟩, ⟨h.nf.1, h.nf.2.1, (hm F h1.b.lt h.nf.2.2.1).2, (hm B h1.m.b.lt h.nf.2.2.2).2⟩, h.ok, hl.1, hl.2, h.c⟩, hm⟩
theorem FoS.upC {C' : Nat} (h : FoS w0 Pd Bd F B d f K C u) (hc : C ≤ C') (h2 : C' ≤ 1000000) : FoS w0 Pd Bd F B d f K C' u := ⟨h.dk, h.fo, h.nf, Ok.up h.ok hc, h.lo, h.hd, h2⟩
theorem FoS.upK {K' : Nat} (h : FoS w0 Pd Bd F B d f K C u) (hc : K ≤ K') (h2 : K' ≤ 1000000) : FoS w0 Pd Bd F B d f K' C u := ⟨⟨h.dk.wf.up hc, h.dk.m.up hc, h2⟩, h.fo, h.nf, h.ok, h.lo, h.hd, h.c⟩
end
/-- a follower made on a disk -/
theorem FoS.made {w0 w v : World} {Pd : Nat → Prop} {Bd F B K : Nat} {d : Dk} {f : Fo} (hd : Dsk Pd w Bd d K) (hlo : Below w0.heap.size w0 w) (hp : ∀ k, Pd k → w0.heap.size ≤ k) (hn : Nf w F B f v) (hok : f.Ok 0) : FoS w0 Pd Bd F B d f K 0 v := by
  obtain ⟨V, h1, h2, h3, h4, h5⟩ := hn
  have hs := hlo.size
  have hlow := hd.m.low
  exact ⟨hd.later h5, ⟨V, h1, fun b hb => ⟨by have := h4 b hb; omega, fun e => by have := h4 b hb; have := hlow b e; omega⟩⟩, ⟨by omega, by omega, fun e => by have := hlow F e; omega, fun e => by have := hlow B e; omega⟩, hok, below_step hlo h5, hp, by omega⟩
end Go.Proofs.Ytpikepifhnkmkaa
