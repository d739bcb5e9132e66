/- lines.New, heronref16.New, heronlaw16.num and known. -/
import Derived.Test.YtpikepifhnkmkaaG32
import Derived.Lib.SlBytesConst
namespace Go.Proofs.Ytpikepifhnkmkaa
open Go.RowKit Go.Maps Ln
attribute [local go_sem ↓] Go.wp_at_zero Go.wp_at_succ

def mk0 (y : Nat) : Mk := ⟨[], y, 0⟩
theorem new_no {y : Int} (w : World) (h : y < 0 ∨ 4096 < y) : Calls Try.prog 20 #[.int .i64 y] w fun e w' => e = .returned (.tuple #[.pointer none, .int .i64 1]) ∧ w' = w := by
  rcases h with h | h
  · go_enter Try.func20, Try.ntmps20
    go_wp2
    go_ret2
    exact ⟨rfl, rfl⟩
  · have h' : ¬ y < 0 := by omega
    go_enter Try.func20, Try.ntmps20
    go_wp2
    go_ret2
    exact ⟨rfl, rfl⟩
theorem new_yes {y : Nat} (w : World) (h : y ≤ 4096) : Calls Try.prog 20 #[.int .i64 (y : Nat)] w fun e w' => e = .returned (.tuple #[.pointer (some ⟨w.heap.size, 0, none⟩), .int .i64 0]) ∧ MkAt w' w.heap.size (.slice none 0 0) (mk0 y) ∧ Below w.heap.size w w' := by
  have HE : Hid (MkAt (w.alloc (.cells #[.slice none 0 0, .int .i64 0, .int .i64 (y : Nat), .int .i64 0] 96)) w.heap.size (.slice none 0 0) (mk0 y) ∧ Below w.heap.size w (w.alloc (.cells #[.slice none 0 0, .int .i64 0, .int .i64 (y : Nat), .int .i64 0] 96))) := by
    refine ⟨⟨heap_alloc_new w _, ?_⟩, (Below.refl _ _).alloc (Nat.le_refl _) _⟩
    have : (mk0 y).held = [] := by unfold Mk.held mk0; split <;> rfl
    rw [this]
    exact owns_nil _ 0 5
  have h1 : ¬ (y : Int) < 0 := by omega
  have h2 : ¬ (4096 : Int) < (y : Int) := by omega
  go_enter Try.func20, Try.ntmps20
  go_wp2
  go_ret2
  exact ⟨rfl, HE.out⟩
/-- A MAKER IN NEW MEMORY -/
def Nm (w0 : World) (B : Nat) (m : Mk) (w : World) : Prop := ∃ V, MkAt w B V m ∧ w0.heap.size ≤ B ∧ (∀ b, V.ownBlock = some b → w0.heap.size ≤ b) ∧ Below w0.heap.size w0 w
section
variable {w0 w u : World} {B : Nat} {m m' : Mk} {V : Value}
theorem MkAt.same {V' : Value} (h : MkAt w B V m) (h' : MkAt w B V' m') : V = V' := by
  have x1 := h.b.cells.1
  rw [h'.b.cells.1] at x1
  exact (Option.some.inj x1).symm
theorem MkAt.later (h : MkAt w B V m) (hb : Below w.heap.size w u) : MkAt u B V m := ⟨h.b.same (hb.block B h.b.lt), h.o.keep fun b _ hl => hb.block b hl⟩
theorem Nm.step (h : Nm w0 B m w) (h2 : ∀ V, MkAt w B V m → MTo B V m' w u) : Nm w0 B m' u := by
  obtain ⟨V, a1, a2, a3, a4⟩ := h
  obtain ⟨V', b1, b2, b3⟩ := h2 V a1
  refine ⟨V', b1, a2, fun b hb => ?_, ?_⟩
  · rcases b2 b hb with e | e
    · exact a3 b e
    · exact Nat.le_trans a4.size e
  · exact ⟨b3.os.trans a4.os, b3.tape.trans a4.tape, b3.output.trans a4.output, Nat.le_trans a4.size b3.size, fun k hk => (b3.block k (Nat.lt_of_lt_of_le hk a4.size) (fun e => by
      rcases e with e | e
      · omega
      · have := a3 k e; omega)).trans (a4.block k hk)⟩
theorem Nm.later (h : Nm w0 B m w) (hb : Below w.heap.size w u) : Nm w0 B m u := by
  obtain ⟨V, a1, a2, a3, a4⟩ := h
  exact ⟨V, a1.later hb, a2, a3, below_step a4 hb⟩
theorem Nm.of_new (hb : Below w0.heap.size w0 w) (h1 : MkAt u w.heap.size (.slice none 0 0) m) (h2 : Below w.heap.size w u) : Nm w0 w.heap.size m u :=
  ⟨_, h1, hb.size, fun b hb => (by cases hb), below_step hb h2⟩
end
theorem nm_feed {w0 w : World} {B n k : Nat} {Y : Value} {m m' : Mk} {b t : List UInt8} {x : Bool} (h : Nm w0 B m w) (hY : LAt w Y (uv b)) (hm : m.most ≤ 4096) (hl : m.u.length + b.length ≤ 4611686018427387904) (hg : m.long ≤ 4611686018427387904) (ht : m.text b = t) (hk : took b = k) (hx : m.whole b = x) (hf : m.feed b = m') (hn : (k : Int) = n) :
    Calls Try.prog 59 #[.pointer (some ⟨B, 0, none⟩), Y] w fun e w' => e = .returned (.tuple #[.string ⟨t.toArray⟩, .int .i64 n, .bool x]) ∧ Nm w0 B m' w' := by
  subst ht hk hx hf
  obtain ⟨V1, h1, _⟩ := id h
  refine (feed_fn h1 hY hm hl hg).mono ?_
  rintro e u ⟨rfl, hu⟩
  exact ⟨by rw [hn], h.step fun V hv => by rw [hv.same h1]; exact hu⟩
theorem nm_held {w0 w : World} {B : Nat} {m : Mk} {n : Nat} (h : Nm w0 B m w) (hn : m.held.length = n) : Calls Try.prog 34 #[.pointer (some ⟨B, 0, none⟩)] w fun e w' => e = .returned (.int .i64 (n : Nat)) ∧ w' = w := by
  subst hn
  obtain ⟨V1, h1, _⟩ := h
  exact held_fn h1.b h1.o
theorem nm_begun {w0 w : World} {B : Nat} {m : Mk} {n : Nat} (h : Nm w0 B m w) (hn : m.u.length = n) : Calls Try.prog 58 #[.pointer (some ⟨B, 0, none⟩)] w fun e w' => e = .returned (.int .i64 (n : Nat)) ∧ w' = w := by
  subst hn
  obtain ⟨V1, h1, _⟩ := h
  exact begun_fn h1.b
theorem lat_const (u : World) (l : List UInt8) (fr : Nat × Nat) (hl : l.length ≤ 9223372036854775807) : LAt (u.alloc (.cells (uv l).toArray 5 fr)) (.slice (some ⟨u.heap.size, 0, none⟩) l.length l.length) (uv l) := by
  refine ⟨_, l.length, by rw [uv_len], by rw [uv_len]; exact Nat.le_refl _, hl, .inr ⟨u.heap.size, 0, rfl, fun k v hv => ?_⟩⟩
  rw [World.cell?_alloc_mark]
  simpa using hv
end Go.Proofs.Ytpikepifhnkmkaa
