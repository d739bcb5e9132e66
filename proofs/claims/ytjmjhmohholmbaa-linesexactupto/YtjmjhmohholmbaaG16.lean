/- heronlaw16.fed: all lines that bytes give a maker. -/
import Derived.Test.YtjmjhmohholmbaaG15
namespace Go.Proofs.Ytjmjhmohholmbaa
open Go.RowKit Go.Maps Ln
attribute [local go_sem ↓] Go.wp_at_zero Go.wp_at_succ

def sv (l : List (List UInt8)) : List Value := l.map fun t => Value.string ⟨t.toArray⟩
theorem sv_len (l : List (List UInt8)) : (sv l).length = l.length := by simp [sv]
def ints (l : List Int) : List Value := l.map fun z => Value.int .i64 z
theorem infS : (Try.prog.info? 9).map (fun i => (i.zero, i.size, i.bytes)) = some (some (.string ⟨#[]⟩), 1, 16) := by kernel_rfl
/-- a maker's frame -/
def Fm (B : Nat) (V : Value) (w u : World) : Prop := FrP (fun k => k = B ∨ V.ownBlock = some k) w u
theorem row_ty {w : World} {B n sz : Nat} {e : TypeId} {V : Value} {xs : List Value} (h : w.ownsRow B e sz V n xs) {b : Nat} (hb : V.ownBlock = some b) : TyB w e b ∧ b < w.heap.size ∧ B ≤ b := by
  rcases h.2 with ⟨rfl, _⟩ | ⟨g, cap, cur, rfl, hBg, hg, _⟩
  · simp [Value.ownBlock] at hb
  · simp [Value.ownBlock] at hb
    subst hb
    exact ⟨⟨_, _, hg⟩, (Array.getElem?_eq_some_iff.1 hg).1, hBg⟩
/-- WHAT STANDS BEHIND p BYTES: the lines L so far (of which the row holds M), the maker -/
structure FedI (w : World) (B : Nat) (V : Value) (m : Mk) (bs : List UInt8) (p : Nat) (L M : List (List UInt8)) (m1 : Mk) (V1 VL : Value) (u : World) : Prop where
  s : (St.of [] m).go m.most (bs.take p) = St.of L m1
  y : m1.most = m.most
  k : MkAt u B V1 m1
  hh : Here w V V1
  fr : Fm B V w u
  l : u.ownsRow w.heap.size 9 1 VL M.length (sv M)
section
variable {w : World} {B : Nat} {V : Value} {m : Mk} {bs : List UInt8} {p : Nat} {L M : List (List UInt8)} {m1 : Mk} {V1 VL : Value} {u : World}
theorem FedI.bounds (h : FedI w B V m bs p L M m1 V1 VL u) : m1.u.length ≤ m.u.length + bs.length ∧ m1.long ≤ m.long + bs.length ∧ L.length ≤ m.long + bs.length := by
  obtain ⟨h1, h2⟩ := St.go_bounds m.most (bs.take p) (St.of [] m)
  have hl : (bs.take p).length ≤ bs.length := by rw [List.length_take]; omega
  rw [h.s] at h1 h2
  simp only [St.of, List.length_nil] at h1 h2
  omega
/-- a call of Feed -/
theorem FedI.feed {t : Nat} {u2 : World} (h : FedI w B V m bs p L M m1 V1 VL u) (hm : MTo B V1 (m1.feed ((bs.drop p).take t)) u u2) :
    ∃ V2, FedI w B V m bs (p + took ((bs.drop p).take t)) (if m1.whole ((bs.drop p).take t) then L ++ [m1.text ((bs.drop p).take t)] else L) M (m1.feed ((bs.drop p).take t)) V2 VL u2 ∧ Here u V1 V2 ∧ Fm B V1 u u2 := by
  obtain ⟨V2, a1, a2, a3⟩ := hm
  have hst := St.feed L m1 ((bs.drop p).take t)
  refine ⟨V2, ⟨?_, (Mk.feed_most _ _).trans h.y, a1, fun b hb => ?_, ?_, ?_⟩, a2, a3⟩
  · have e : bs.take (p + took ((bs.drop p).take t)) = bs.take p ++ ((bs.drop p).take t).take (took ((bs.drop p).take t)) := by
      rw [List.take_take, Nat.min_eq_left (Nat.le_trans (took_le _) (by rw [List.length_take]; omega)), List.take_add]
    rw [e, St.go_append, h.s, ← h.y]
    exact hst.symm
  · rcases a2 b hb with e | e
    · exact h.hh b e
    · exact .inr (Nat.le_trans h.fr.size e)
  · refine FrP.trans h.fr a3 (fun k hk hq => ?_)
    rcases hq with e | e
    · exact .inl e
    · rcases h.hh k e with e2 | e2
      · exact .inr e2
      · omega
  · exact ownsRow_keep h.l (fun b hb _ hl => a3.block b hl (fun e => by
      have ht := (row_ty h.l hb).1
      rcases e with e | e
      · subst e; exact absurd (TyB.ne ht h.k.b.ty) (by decide)
      · exact absurd (TyB.ne ht (h.k.o.ty e).1) (by decide)))
/-- other new memory -/
theorem FedI.later {u2 : World} (h : FedI w B V m bs p L M m1 V1 VL u) (hb : Below u.heap.size u u2) : FedI w B V m bs p L M m1 V1 VL u2 :=
  ⟨h.s, h.y, h.k.later hb, h.hh, h.fr.below hb, ownsRow_keep h.l (fun b _ _ hl => hb.block b hl)⟩
/-- a line is laid to the row -/
theorem FedI.put {M' : List (List UInt8)} {VL' : Value} {u2 : World} (h : FedI w B V m bs p L M m1 V1 VL u) (hg : u.grownBy u2 VL.ownBlock) (hl : u2.ownsRow w.heap.size 9 1 VL' M'.length (sv M')) : FedI w B V m bs p L M' m1 V1 VL' u2 := by
  have hn : ∀ b, VL.ownBlock = some b → TyB u 9 b ∧ w.heap.size ≤ b := fun b hb => ⟨(row_ty h.l hb).1, (row_ty h.l hb).2.2⟩
  refine ⟨h.s, h.y, ⟨h.k.b.same (hg.block B h.k.b.lt (fun e => absurd (TyB.ne (hn B e.symm).1 h.k.b.ty) (by decide))), h.k.o.keep fun b hb hlt => hg.block b hlt (fun e => absurd (TyB.ne (hn b e.symm).1 (h.k.o.ty hb).1) (by decide))⟩, h.hh, ?_, hl⟩
  exact FrP.grown h.fr hg (fun k hk e => by have := (hn k e).2; omega)
end
/-- THE PIECE: it lies in a block of its own -/
structure Pc (w : World) (V1 Y : Value) (g : Nat) (l : List UInt8) (u : World) : Prop where
  t : TyB u 5 g
  n : V1.ownBlock ≠ some g
  b : w.heap.size ≤ g
  a : LAt u Y (uv l)
  f : ∃ o n c, Y = .slice (some ⟨g, o, none⟩) n c
theorem LAt.blk {w u : World} {Y : Value} {xs : List Value} {g o n c : Nat} (h : LAt w Y xs) (hf : Y = .slice (some ⟨g, o, none⟩) n c) (hk : u.heap[g]? = w.heap[g]?) : LAt u Y xs := by
  obtain ⟨a, c', e, h1, h2, h3⟩ := h
  refine ⟨a, c', e, h1, h2, ?_⟩
  rcases h3 with h3 | ⟨b, off, ea, hc⟩
  · exact .inl h3
  · refine .inr ⟨b, off, ea, fun k v hv => ?_⟩
    rw [hf] at e
    cases e
    cases ea
    have := hc k v hv
    simp only [World.cell?] at this ⊢
    rw [hk]
    exact this
theorem TyB.lt {w : World} {t : TypeId} {b : Nat} (h : TyB w t b) : b < w.heap.size := by obtain ⟨_, _, h⟩ := h; exact (Array.getElem?_eq_some_iff.1 h).1
theorem TyB.keep {w u : World} {t : TypeId} {b : Nat} (h : TyB w t b) (hk : u.heap[b]? = w.heap[b]?) : TyB u t b := by obtain ⟨x, y, h⟩ := h; exact ⟨x, y, hk.trans h⟩
theorem Pc.feed {w u u2 : World} {B : Nat} {m1 : Mk} {V1 V2 Y : Value} {g : Nat} {l : List UInt8} (h : Pc w V1 Y g l u) (hk : MkAt u B V1 m1) (hf : Fm B V1 u u2) (hh : Here u V1 V2) : Pc w V2 Y g l u2 := by
  have hb : u2.heap[g]? = u.heap[g]? := hf.block g h.t.lt (fun e => by
    rcases e with e | e
    · subst e; exact absurd (TyB.ne h.t hk.b.ty) (by decide)
    · exact h.n e)
  obtain ⟨o, n, c, e⟩ := h.f
  exact ⟨h.t.keep hb, fun e2 => by
    rcases hh g e2 with e3 | e3
    · exact h.n e3
    · have := h.t.lt; omega, h.b, h.a.blk e hb, h.f⟩
theorem Pc.put {w u u2 : World} {V1 Y VL : Value} {g n : Nat} {xs : List Value} {l : List UInt8} (h : Pc w V1 Y g l u) (hl : u.ownsRow w.heap.size 9 1 VL n xs) (hg : u.grownBy u2 VL.ownBlock) : Pc w V1 Y g l u2 := by
  have hb : u2.heap[g]? = u.heap[g]? := hg.block g h.t.lt (fun e => absurd (TyB.ne (row_ty hl e.symm).1 h.t) (by decide))
  obtain ⟨o, n, c, e⟩ := h.f
  exact ⟨h.t.keep hb, h.n, h.b, h.a.blk e hb, h.f⟩
end Go.Proofs.Ytjmjhmohholmbaa
