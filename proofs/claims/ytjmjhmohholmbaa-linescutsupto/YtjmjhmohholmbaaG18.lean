/- Two makers in new memory. -/
import Derived.Test.YtjmjhmohholmbaaG17
namespace Go.Proofs.Ytjmjhmohholmbaa
open Go.RowKit Go.Maps Ln

structure P2 (w0 : World) (B1 : Nat) (m1 : Mk) (B2 : Nat) (m2 : Mk) (u : World) : Prop where
  ex : ∃ V1 V2, MkAt u B1 V1 m1 ∧ MkAt u B2 V2 m2 ∧ (∀ b, V1.ownBlock = some b → V2.ownBlock ≠ some b) ∧ (∀ b, V1.ownBlock = some b → w0.heap.size ≤ b) ∧ (∀ b, V2.ownBlock = some b → w0.heap.size ≤ b)
  ne : B1 ≠ B2
  l1 : w0.heap.size ≤ B1
  l2 : w0.heap.size ≤ B2
  lo : Below w0.heap.size w0 u
section
variable {w0 u v : World} {B1 B2 : Nat} {m1 m2 m1' : Mk}
theorem P2.swap (h : P2 w0 B1 m1 B2 m2 u) : P2 w0 B2 m2 B1 m1 u := by
  obtain ⟨V1, V2, a1, a2, a3, a4, a5⟩ := h.ex
  exact ⟨⟨V2, V1, a2, a1, fun b hb e => a3 b e hb, a5, a4⟩, fun e => h.ne e.symm, h.l2, h.l1, h.lo⟩
theorem P2.later (h : P2 w0 B1 m1 B2 m2 u) (hb : Below u.heap.size u v) : P2 w0 B1 m1 B2 m2 v := by
  obtain ⟨V1, V2, a1, a2, a3, a4, a5⟩ := h.ex
  exact ⟨⟨V1, V2, a1.later hb, a2.later hb, a3, a4, a5⟩, h.ne, h.l1, h.l2, below_step h.lo hb⟩
theorem P2.step (h : P2 w0 B1 m1 B2 m2 u) (hm : ∀ V, MkAt u B1 V m1 → MTo B1 V m1' u v) : P2 w0 B1 m1' B2 m2 v := by
  obtain ⟨V1, V2, a1, a2, a3, a4, a5⟩ := h.ex
  obtain ⟨V1', b1, b2, b3⟩ := hm V1 a1
  refine ⟨⟨V1', V2, b1, ?_, fun b hb e => ?_, fun b hb => ?_, a5⟩, h.ne, h.l1, h.l2, ?_⟩
  · refine ⟨a2.b.same (b3.block B2 a2.b.lt fun e => ?_), a2.o.keep fun b hb hl => b3.block b hl fun e => ?_⟩
    · rcases e with e | e
      · exact h.ne e.symm
      · exact absurd (TyB.ne (a1.o.ty e).1 a2.b.ty) (by decide)
    · rcases e with e | e
      · subst e; exact absurd (TyB.ne (a2.o.ty hb).1 a1.b.ty) (by decide)
      · exact a3 b e hb
  · rcases b2 b hb with e2 | e2
    · exact a3 b e2 e
    · have := (a2.o.ty e).2; omega
  · rcases b2 b hb with e2 | e2
    · exact a4 b e2
    · exact Nat.le_trans h.lo.size e2
  · exact ⟨b3.os.trans h.lo.os, b3.tape.trans h.lo.tape, b3.output.trans h.lo.output, Nat.le_trans h.lo.size b3.size, fun k hk => (b3.block k (Nat.lt_of_lt_of_le hk h.lo.size) (fun e => by
      rcases e with e | e
      · have := h.l1; omega
      · have := a4 k e; omega)).trans (h.lo.block k hk)⟩
/-- memory ahead of both stands while the first one goes on -/
theorem P2.frame (h : P2 w0 B1 m1 B2 m2 u) {V : Value} (hV : MkAt u B1 V m1) {x : World} (hf : Fm B1 V u x) : Below w0.heap.size w0 x := by
  obtain ⟨V1, V2, a1, a2, a3, a4, a5⟩ := h.ex
  have := hV.same a1
  subst this
  exact ⟨hf.os.trans h.lo.os, hf.tape.trans h.lo.tape, hf.output.trans h.lo.output, Nat.le_trans h.lo.size hf.size, fun k hk => (hf.block k (Nat.lt_of_lt_of_le hk h.lo.size) (fun e => by
      rcases e with e | e
      · have := h.l1; omega
      · have := a4 k e; omega)).trans (h.lo.block k hk)⟩
end
/-- a row of texts stands while a maker goes on -/
theorem rowS_mto {u v : World} {B b0 n : Nat} {V VL : Value} {m m' : Mk} {xs : List Value} (hk : MkAt u B V m) (hm : MTo B V m' u v) (hl : u.ownsRow b0 9 1 VL n xs) : v.ownsRow b0 9 1 VL n xs := by
  obtain ⟨V', _, _, hf⟩ := hm
  exact ownsRow_keep hl (fun b hb _ hlt => hf.block b hlt (fun e => by
    have ht := (row_ty hl hb).1
    rcases e with e | e
    · subst e; exact absurd (TyB.ne ht hk.b.ty) (by decide)
    · exact absurd (TyB.ne ht (hk.o.ty e).1) (by decide)))
theorem FedI.mto {w : World} {B : Nat} {V : Value} {m : Mk} {bs : List UInt8} {p : Nat} {L M : List (List UInt8)} {m1 : Mk} {V1 VL : Value} {u : World} (h : FedI w B V m bs p L M m1 V1 VL u) : MTo B V m1 w u := ⟨V1, h.k, h.hh, h.fr⟩
/-- what fed has told -/
theorem FedI.told {w : World} {B : Nat} {V : Value} {m : Mk} {bs : List UInt8} {L M : List (List UInt8)} {m1 : Mk} {V1 VL : Value} {u : World} (h : FedI w B V m bs bs.length L M m1 V1 VL u) :
    L = ((St.mk [] m.u 0).go m.most bs).ls ∧ m1 = ⟨((St.mk [] m.u 0).go m.most bs).u, m.most, m.long + ((St.mk [] m.u 0).go m.most bs).lg⟩ := by
  have hs := h.s
  have hy := h.y
  rw [List.take_length] at hs
  have e : St.of [] m = ⟨[], m.u, m.long⟩ := rfl
  rw [e, St.shift] at hs
  obtain ⟨u1, y1, z1⟩ := m1
  simp only [St.of, St.mk.injEq, List.nil_append] at hs hy
  obtain ⟨h1, h2, h3⟩ := hs
  exact ⟨h1.symm, by rw [h2, h3, hy]⟩
theorem p2_fed {w u : World} {B1 B2 N y yc : Nat} {ya : Option Addr} {m1 m2 : Mk} {bs : List UInt8} (h : P2 w B1 m1 B2 m2 u) (hN : bs.length = N) (hy : m1.most = y) (hy2 : y ≤ 4096) (hb : LAt w (.slice ya N yc) (uv bs)) (hN2 : N ≤ 1048576) (hu : m1.u.length ≤ 1099511627776) (hg : m1.long ≤ 1048576) :
    Calls Try.prog 9 #[.pointer (some ⟨B1, 0, none⟩), .slice ya N yc, .slice none 0 0, .int .i64 (y : Nat)] u fun e w' => ∃ VL L m', e = .returned (.tuple #[VL, .bool true]) ∧ P2 w B1 m' B2 m2 w' ∧ w'.ownsRow 0 9 1 VL L.length (sv L) ∧ L = ((St.mk [] m1.u 0).go y bs).ls ∧ m' = ⟨((St.mk [] m1.u 0).go y bs).u, y, m1.long + ((St.mk [] m1.u 0).go y bs).lg⟩ ∧ ∀ b0 n VL' xs, u.ownsRow b0 9 1 VL' n xs → w'.ownsRow b0 9 1 VL' n xs := by
  obtain ⟨V1, V2, a1, a2, a3, a4, a5⟩ := h.ex
  refine (fed_fn (cs := []) a1 hN rfl hy hy2 (fun x hx => hb.later ((h.frame a1 hx))) (fun x _ => lat_nil x) hN2 (Nat.zero_le _) hu hg).mono ?_
  rintro e w' ⟨VL, L, m', V', rfl, hI⟩
  obtain ⟨t1, t2⟩ := hI.told
  rw [hy] at t1 t2
  have hm : ∀ V, MkAt u B1 V m1 → MTo B1 V m' u w' := fun V hV => by rw [hV.same a1]; exact hI.mto
  refine ⟨VL, L, m', rfl, h.step hm, ?_, t1, t2, fun b0 n VL' xs hr => rowS_mto a1 hI.mto hr⟩
  have := hI.l
  rcases this with ⟨q1, q2⟩
  refine ⟨q1, ?_⟩
  rcases q2 with q2 | ⟨g, cap, cur, x1, x2, x3⟩
  · exact .inl q2
  · exact .inr ⟨g, cap, cur, x1, Nat.zero_le _, x3⟩
theorem drop_at {w : World} {B : Nat} {V : Value} {m : Mk} (h : MkAt w B V m) : Calls Try.prog 13 #[.pointer (some ⟨B, 0, none⟩)] w fun e w' => e = .returned (.tuple #[]) ∧ MTo B V m.drop w w' :=
  (drop_fn h.b h.o).mono fun _ _ ⟨he, hp⟩ => ⟨he, hp.to rfl rfl rfl (by unfold Mk.held Mk.drop; split <;> rfl)⟩
end Go.Proofs.Ytjmjhmohholmbaa
