/- A maker in memory; bytes as a text. -/
import Derived.Test.YtpikepifhnkmkaaG08
import Derived.Laws.BytesArg
namespace Go.Proofs.Ytpikepifhnkmkaa
open Go.RowKit Go.Maps Ln

theorem conv_uv {w : World} {V : Value} {l : List UInt8} (h : LAt w V (uv l)) : (convert 46 9 V).run Try.prog w = .ok (.string ⟨l.toArray⟩) w := by
  obtain ⟨a, c, rfl, _, _, h3⟩ := h
  rw [uv_len]
  have es : strOfNums (l.map fun b => ((b.toNat : Nat) : Int)) = ⟨l.toArray⟩ := by unfold strOfNums; simp [List.map_map, Function.comp_def]
  rcases h3 with h3 | ⟨b, off, rfl, hc⟩
  · have hl : l = [] := by unfold uv at h3; exact List.map_eq_nil_iff.1 h3
    subst hl
    cases a with
    | none => exact run_convert_bytes_nil w 46 5 (by kernel_rfl) Try.underlying5 0 c 9 Try.underlying9
    | some ad =>
      rw [show ([] : List UInt8).length = 0 from rfl, run_convert_bytes_string w 46 9 5 _ _ _ (by kernel_rfl) Try.underlying5 Try.underlying9]
      have hl : (loadCells ad 0).run Try.prog w = .ok (([] : List Int).map (Value.int .u8)).toArray w := run_loadCells_list (P := Try.prog) w ad [] (fun j v hj => by simp at hj)
      exact run_bytesToString w ad 0 c [] hl
  · rw [← es]
    exact run_convert_bytes_arg w 46 5 (by kernel_rfl) Try.underlying5 b off l.length c (l.map fun b => ((b.toNat : Nat) : Int)) (by simp) (fun i hi => by rw [hc i (.int .u8 (l[i].toNat : Nat)) (by simp [uv, hi])]; simp [hi]) 9 Try.underlying9
/-! ### a maker's block -/
def MkB (w : World) (B : Nat) (V : Value) (x y z : Int) : Prop := w.heap[B]? = some (.cells #[V, .int .i64 x, .int .i64 y, .int .i64 z] 96 (0, 0))
section
variable {w u v : World} {B : Nat} {V V1 V2 : Value} {x y z : Int} {l : List UInt8}
theorem MkB.cells (h : MkB w B V x y z) : w.cell? ⟨B, 0, none⟩ = some V ∧ w.cell? ⟨B, 1, none⟩ = some (.int .i64 x) ∧ w.cell? ⟨B, 2, none⟩ = some (.int .i64 y) ∧ w.cell? ⟨B, 3, none⟩ = some (.int .i64 z) := by
  simp [World.cell?, show w.heap[B]? = _ from h]
theorem MkB.frozen (h : MkB w B V x y z) (j : Nat) : w.frozen? ⟨B, j, none⟩ = false := by simp [World.frozen?, show w.heap[B]? = _ from h]
theorem MkB.ty (h : MkB w B V x y z) : TyB w 96 B := ⟨_, _, h⟩
theorem MkB.lt (h : MkB w B V x y z) : B < w.heap.size := (Array.getElem?_eq_some_iff.1 h).1
theorem MkB.same (h : MkB w B V x y z) (e : u.heap[B]? = w.heap[B]?) : MkB u B V x y z := e.trans h
theorem MkB.put0 (h : MkB w B V x y z) (V' : Value) : MkB (w.setCell ⟨B, 0, none⟩ V') B V' x y z := by unfold MkB; rw [heap_set h]; simp
theorem MkB.put1 (h : MkB w B V x y z) (x' : Int) : MkB (w.setCell ⟨B, 1, none⟩ (.int .i64 x')) B V x' y z := by unfold MkB; rw [heap_set h]; simp
theorem MkB.put3 (h : MkB w B V x y z) (z' : Int) : MkB (w.setCell ⟨B, 3, none⟩ (.int .i64 z')) B V x y z' := by unfold MkB; rw [heap_set h]; simp
theorem own_set (h : OwnB w V l) (hb : MkB w B V1 x y z) (j : Nat) (X : Value) : OwnB (w.setCell ⟨B, j, none⟩ X) V l := h.keep fun b hb2 _ => Below.heap_setCell w ⟨B, j, none⟩ X b (fun e => by
  subst e
  exact absurd (TyB.ne (h.ty hb2).1 hb.ty) (by decide))
/-- THE MAKER IS LEFT SO: its own blocks may have turned. -/
def MPost (B : Nat) (V : Value) (x y z : Int) (l : List UInt8) (w w' : World) : Prop := ∃ V', MkB w' B V' x y z ∧ OwnB w' V' l ∧ Here w V V' ∧ FrP (fun k => k = B ∨ V.ownBlock = some k) w w'
theorem MPost.trans {x2 y2 z2 : Int} {l2 : List UInt8} (h : MkB u B V1 x y z ∧ OwnB u V1 l ∧ Here w V V1 ∧ FrP (fun k => k = B ∨ V.ownBlock = some k) w u) (h2 : MPost B V1 x2 y2 z2 l2 u v) : MPost B V x2 y2 z2 l2 w v := by
  obtain ⟨V2, g1, g2, g3, g4⟩ := h2
  obtain ⟨_, _, h3, h4⟩ := h
  refine ⟨V2, g1, g2, fun b hb => ?_, h4.trans g4 (fun k hk hq => ?_)⟩
  · rcases g3 b hb with e | e
    · exact h3 b e
    · exact .inr (Nat.le_trans h4.size e)
  · rcases hq with e | e
    · exact .inl e
    · rcases h3 k e with e2 | e2
      · exact .inr e2
      · omega
theorem MPost.refl (h : MkB w B V x y z) (ho : OwnB w V l) : MPost B V x y z l w w := ⟨V, h, ho, fun _ hb => .inl hb, FrP.refl _ w⟩
theorem MPost.set1 {l2 : List UInt8} (h : MPost B V x y z l2 w u) (x' : Int) : MPost B V x' y z l2 w (u.setCell ⟨B, 1, none⟩ (.int .i64 x')) := by
  obtain ⟨V', h1, h2, h3, h4⟩ := h
  exact ⟨V', h1.put1 x', own_set h2 h1 1 _, h3, h4.set (fun _ => .inl rfl) 1 _⟩
theorem MPost.set3 {l2 : List UInt8} (h : MPost B V x y z l2 w u) (z' : Int) : MPost B V x y z' l2 w (u.setCell ⟨B, 3, none⟩ (.int .i64 z')) := by
  obtain ⟨V', h1, h2, h3, h4⟩ := h
  exact ⟨V', h1.put3 z', own_set h2 h1 3 _, h3, h4.set (fun _ => .inl rfl) 3 _⟩
theorem MPost.undrew {l2 : List UInt8} {q : Nat} (h : MPost B V x y z l2 (w.drewN q) u) : MPost B V x y z l2 w u := by
  obtain ⟨V', h1, h2, h3, h4⟩ := h
  exact ⟨V', h1, h2, h3, ⟨h4.os, h4.tape, h4.output, h4.size, h4.block⟩⟩
theorem MPost.undrew1 {l2 : List UInt8} (h : MPost B V x y z l2 w.drew u) : MPost B V x y z l2 w u := by
  obtain ⟨V', h1, h2, h3, h4⟩ := h
  exact ⟨V', h1, h2, h3, ⟨h4.os, h4.tape, h4.output, h4.size, h4.block⟩⟩
end
/-- A MAKER IN MEMORY -/
structure MkAt (w : World) (B : Nat) (V : Value) (m : Mk) : Prop where
  b : MkB w B V m.u.length m.most m.long
  o : OwnB w V m.held
def MTo (B : Nat) (V : Value) (m : Mk) (w w' : World) : Prop := ∃ V', MkAt w' B V' m ∧ Here w V V' ∧ FrP (fun k => k = B ∨ V.ownBlock = some k) w w'
theorem MPost.to {B : Nat} {V : Value} {m : Mk} {x y z : Int} {l : List UInt8} {w u : World} (h : MPost B V x y z l w u) (ex : x = (m.u.length : Nat)) (ey : y = (m.most : Nat)) (ez : z = (m.long : Nat)) (el : l = m.held) : MTo B V m w u := by
  subst ex ey ez el
  obtain ⟨V', h1, h2, h3, h4⟩ := h
  exact ⟨V', ⟨h1, h2⟩, h3, h4⟩
end Go.Proofs.Ytpikepifhnkmkaa
