/- The document's reader of layer 4: its block, its frame; more, is, fault. -/
import Derived.Test.YtjmbimgofceanaaG16
import Derived.Test.YtjmbimgofceanaaG26
import Derived.Deep.DeepAppendRoom
import Derived.Deep.AppendLies
namespace Go.Proofs.Ytjmbimgofceanaa
open Go.RowKit
attribute [local go_sem ↓] Go.wp_at_zero Go.wp_at_succ

/-- a block of an element type -/
def TyB (w : World) (t : TypeId) (b : Nat) : Prop := ∃ c z, w.heap[b]? = some (.cells c t z)
theorem TyB.same {w w' : World} {t : TypeId} {b : Nat} (h : TyB w t b) (e : w'.heap[b]? = w.heap[b]?) : TyB w' t b := by
  obtain ⟨c, z, hc⟩ := h
  exact ⟨c, z, e.trans hc⟩
theorem TyB.ne {w : World} {t u : TypeId} {b : Nat} (h : TyB w t b) (h2 : TyB w u b) : t = u := by
  obtain ⟨c, z, hc⟩ := h
  obtain ⟨c', z', hc'⟩ := h2
  rw [hc] at hc'
  simp at hc'
  exact hc'.2.1
/-- THE FRAME OF THE READER's METHODS: all stands but the reader's block and, from a place on, blocks of numbers. -/
structure Fr (b0 B : Nat) (w w' : World) : Prop where
  os : w'.os = w.os
  tape : w'.tape = w.tape
  output : w'.output = w.output
  size : w.heap.size ≤ w'.heap.size
  block : ∀ k, k < w.heap.size → k ≠ B → (b0 ≤ k → ¬ TyB w 3 k) → w'.heap[k]? = w.heap[k]?
section
variable {b0 B : Nat} {w u w' : World}
theorem Fr.refl (b0 B : Nat) (w : World) : Fr b0 B w w := ⟨rfl, rfl, rfl, Nat.le_refl _, fun _ _ _ _ => rfl⟩
theorem Fr.trans (h : Fr b0 B w u) (h2 : Fr b0 B u w') : Fr b0 B w w' :=
  ⟨h2.os.trans h.os, h2.tape.trans h.tape, h2.output.trans h.output, Nat.le_trans h.size h2.size, fun k hk hne ht => by
    have e := h.block k hk hne ht
    exact (h2.block k (Nat.lt_of_lt_of_le hk h.size) hne (fun hb ht3 => ht hb (ht3.same e.symm))).trans e⟩
theorem Fr.later (h : Fr b0 B w u) (hb : Below u.heap.size u w') : Fr b0 B w w' :=
  ⟨hb.os.trans h.os, hb.tape.trans h.tape, hb.output.trans h.output, Nat.le_trans h.size hb.size, fun k hk hne ht => (hb.block k (Nat.lt_of_lt_of_le hk h.size)).trans (h.block k hk hne ht)⟩
theorem Fr.of_below (b0 B : Nat) (hb : Below w.heap.size w w') : Fr b0 B w w' := (Fr.refl b0 B w).later hb
theorem Fr.set (b0 B : Nat) (w : World) (j : Nat) (v : Value) : Fr b0 B w (w.setCell ⟨B, j, none⟩ v) :=
  ⟨rfl, rfl, rfl, by simp [World.setCell], fun k _ hk _ => Below.heap_setCell w ⟨B, j, none⟩ v k hk⟩
theorem Fr.new (h : Fr b0 B w u) {A : Nat} (hA : w.heap.size ≤ A) (j : Nat) (v : Value) : Fr b0 B w (u.setCell ⟨A, j, none⟩ v) :=
  ⟨h.os, h.tape, h.output, by simpa [World.setCell] using h.size, fun k hk hne ht => (Below.heap_setCell u ⟨A, j, none⟩ v k (by simp; omega)).trans (h.block k hk hne ht)⟩
theorem Fr.put8 (h : Fr b0 B w u) {A : Nat} (hA : w.heap.size ≤ A) (x : Nd) : Fr b0 B w (put8 u A x) :=
  (((((((h.new hA _ _).new hA _ _).new hA _ _).new hA _ _).new hA _ _).new hA _ _).new hA _ _).new hA _ _
theorem Fr.put4 (h : Fr b0 B w u) {A : Nat} (hA : w.heap.size ≤ A) (t : Oct.S) : Fr b0 B w (put4 u A t) :=
  (((h.new hA _ _).new hA _ _).new hA _ _).new hA _ _
theorem Fr.own (h : Fr b0 B w u) {r : Option Nat} (hg : u.grownBy w' r) (hr : ∀ k, r = some k → w.heap.size ≤ k) : Fr b0 B w w' :=
  ⟨hg.os.trans h.os, hg.tape.trans h.tape, hg.output.trans h.output, Nat.le_trans h.size hg.size, fun k hk hne ht =>
    (hg.block k (Nat.lt_of_lt_of_le hk h.size) (fun e => by have := hr k e.symm; omega)).trans (h.block k hk hne ht)⟩
theorem Fr.keep (h : Fr b0 B w w') {A : Nat} {c : Array Value} {t : TypeId} {z : Nat × Nat} (hA : w.heap[A]? = some (.cells c t z)) (hne : A ≠ B) (ht : t ≠ 3) : w'.heap[A]? = some (.cells c t z) :=
  (h.block A (Array.getElem?_eq_some_iff.1 hA).1 hne (fun _ h3 => ht (TyB.ne ⟨c, z, hA⟩ h3))).trans hA
theorem Fr.below (h : Fr b0 B w w') (hB : b0 ≤ B) (hb : b0 ≤ w.heap.size) : Below b0 w w' :=
  ⟨h.os, h.tape, h.output, h.size, fun k hk => h.block k (by omega) (by omega) (fun h2 => by omega)⟩
end
/-- THE READER's BLOCK: its text, its place, so many open groups, its fault and the place of that. -/
def RR (w : World) (b0 B : Nat) (s : ByteArray) (i d e a : Nat) : Prop :=
  b0 ≤ B ∧ ∃ V xs, w.heap[B]? = some (.cells #[.string s, .int .i64 (i : Nat), V, .int .i64 (e : Nat), .int .i64 (a : Nat)] 57 (0, 0)) ∧ w.ownsRow b0 3 1 V d xs
section
variable {w w' : World} {b0 B : Nat} {s : ByteArray} {i d e a : Nat}
theorem RR.base (h : RR w b0 B s i d e a) : b0 ≤ B := h.1
theorem RR.ty (h : RR w b0 B s i d e a) : TyB w 57 B := by
  obtain ⟨_, V, xs, h1, _⟩ := h
  exact ⟨_, _, h1⟩
theorem RR.lt (h : RR w b0 B s i d e a) : B < w.heap.size := by
  obtain ⟨_, V, xs, h1, _⟩ := h
  exact (Array.getElem?_eq_some_iff.1 h1).1
theorem RR.ne (h : RR w b0 B s i d e a) {A : Nat} {t : TypeId} (hA : TyB w t A) (ht : t ≠ 57) : A ≠ B := fun e => ht (TyB.ne (e ▸ hA) h.ty)
theorem RR.cells (h : RR w b0 B s i d e a) : ∃ o c, w.cell? ⟨B, 0, none⟩ = some (.string s) ∧ w.cell? ⟨B, 1, none⟩ = some (.int .i64 (i : Nat)) ∧ w.cell? ⟨B, 2, none⟩ = some (.slice o d c) ∧ w.cell? ⟨B, 3, none⟩ = some (.int .i64 (e : Nat)) ∧ w.cell? ⟨B, 4, none⟩ = some (.int .i64 (a : Nat)) := by
  obtain ⟨_, V, xs, h1, h2⟩ := h
  rcases h2.2 with ⟨rfl, rfl⟩ | ⟨g, cap, cur, rfl, _⟩
  · refine ⟨none, 0, ?_, ?_, ?_, ?_, ?_⟩ <;> simp [World.cell?, h1]
  · refine ⟨some ⟨g, 0, none⟩, cap, ?_, ?_, ?_, ?_, ?_⟩ <;> simp [World.cell?, h1]
theorem RR.frozen (h : RR w b0 B s i d e a) (j : Nat) : w.frozen? ⟨B, j, none⟩ = false := by
  obtain ⟨_, V, xs, h1, _⟩ := h
  simp [World.frozen?, h1]
theorem RR.keep (h : RR w b0 B s i d e a) (hk : ∀ k, k < w.heap.size → (k = B ∨ TyB w 3 k) → w'.heap[k]? = w.heap[k]?) : RR w' b0 B s i d e a := by
  have hlt := h.lt
  obtain ⟨h0, V, xs, h1, h2⟩ := h
  refine ⟨h0, V, xs, (hk B hlt (Or.inl rfl)).trans h1, h2.1, ?_⟩
  rcases h2.2 with h3 | ⟨g, cap, cur, rfl, hb, hg, r⟩
  · exact Or.inl h3
  · exact Or.inr ⟨g, cap, cur, rfl, hb, (hk g (Array.getElem?_eq_some_iff.1 hg).1 (Or.inr ⟨_, _, hg⟩)).trans hg, r⟩
theorem RR.later (h : RR w b0 B s i d e a) (hb : Below w.heap.size w w') : RR w' b0 B s i d e a := h.keep (fun k hk _ => hb.block k hk)
/-- something written into a block that is none of the reader's -/
theorem RR.apart (h : RR w b0 B s i d e a) {A : Nat} {t : TypeId} (hA : TyB w t A) (h3 : t ≠ 3) (h57 : t ≠ 57) (hk : ∀ k, k < w.heap.size → k ≠ A → w'.heap[k]? = w.heap[k]?) : RR w' b0 B s i d e a :=
  h.keep (fun k hlt hk2 => hk k hlt (fun e => by
    subst e
    rcases hk2 with rfl | hk2
    · exact h57 (TyB.ne hA h.ty)
    · exact h3 (TyB.ne hA hk2)))
theorem RR.put8 (h : RR w b0 B s i d e a) {A : Nat} {x : Nd} (hA : NB w A x) (y : Nd) : RR (put8 w A y) b0 B s i d e a := h.apart (A := A) ⟨_, _, hA⟩ (by decide) (by decide) (fun k _ hk => heap_put8 w A y k hk)
theorem heap_put4 (w : World) (A : Nat) (x : Oct.S) (k : Nat) (h : k ≠ A) : (put4 w A x).heap[k]? = w.heap[k]? := by
  unfold Ytjmbimgofceanaa.put4
  rw [Below.heap_setCell _ ⟨A, 3, none⟩ _ k h, Below.heap_setCell _ ⟨A, 2, none⟩ _ k h, Below.heap_setCell _ ⟨A, 1, none⟩ _ k h, Below.heap_setCell _ ⟨A, 0, none⟩ _ k h]
theorem RR.put4 (h : RR w b0 B s i d e a) {A : Nat} {x : Oct.S} (hA : SB w A x) (y : Oct.S) : RR (put4 w A y) b0 B s i d e a := h.apart (A := A) ⟨_, _, hA⟩ (by decide) (by decide) (fun k _ hk => heap_put4 w A y k hk)
theorem RR.at (h : RR w b0 B s i d e a) (j : Nat) : RR (w.setCell ⟨B, 1, none⟩ (.int .i64 (j : Nat))) b0 B s j d e a := by
  have hty := h.ty
  obtain ⟨h0, V, xs, h1, h2⟩ := h
  refine ⟨h0, V, xs, ?_, h2.1, ?_⟩
  · rw [heap_set h1]
    rfl
  · rcases h2.2 with h3 | ⟨g, cap, cur, rfl, hb, hg, r⟩
    · exact Or.inl h3
    · exact Or.inr ⟨g, cap, cur, rfl, hb, (Below.heap_setCell w ⟨B, 1, none⟩ _ g (fun e => by simp at e; subst e; exact absurd (TyB.ne hty ⟨_, _, hg⟩) (by decide))).trans hg, r⟩
theorem RR.fault (h : RR w b0 B s i d e a) (e' a' : Nat) : RR ((w.setCell ⟨B, 3, none⟩ (.int .i64 (e' : Nat))).setCell ⟨B, 4, none⟩ (.int .i64 (a' : Nat))) b0 B s i d e' a' := by
  have hty := h.ty
  obtain ⟨h0, V, xs, h1, h2⟩ := h
  refine ⟨h0, V, xs, ?_, h2.1, ?_⟩
  · rw [heap_set (heap_set h1 _ _)]
    rfl
  · rcases h2.2 with h3 | ⟨g, cap, cur, rfl, hb, hg, r⟩
    · exact Or.inl h3
    · have hne : g ≠ B := fun e => by subst e; exact absurd (TyB.ne hty ⟨_, _, hg⟩) (by decide)
      exact Or.inr ⟨g, cap, cur, rfl, hb, ((Below.heap_setCell _ ⟨B, 4, none⟩ _ g hne).trans (Below.heap_setCell w ⟨B, 3, none⟩ _ g hne)).trans hg, r⟩
end
end Go.Proofs.Ytjmbimgofceanaa

/- Edges in memory; the maker's block; its frame; state, edge, free. -/
namespace Go.Proofs.Ytjmbimgofceanaa
open Go.RowKit
attribute [local go_sem ↓] Go.wp_at_zero Go.wp_at_succ

def Eg.cells (e : Eg) : List Value := [.int .i64 e.k, .int .i64 e.f, .int .i64 e.t, .int .u64 (Oct.word e.s 0 : Nat), .int .u64 (Oct.word e.s 1 : Nat), .int .u64 (Oct.word e.s 2 : Nat), .int .u64 (Oct.word e.s 3 : Nat)]
def flatE (es : List Eg) : List Value := es.flatMap Eg.cells
theorem flatE_length (es : List Eg) : (flatE es).length = 7 * es.length := by
  induction es with
  | nil => rfl
  | cons x r ih => simp only [flatE, List.flatMap_cons, List.length_append, List.length_cons] at ih ⊢; rw [ih]; simp [Eg.cells]; omega
theorem flatE_append (a b : List Eg) : flatE (a ++ b) = flatE a ++ flatE b := by simp [flatE]
theorem flatE_one (es : List Eg) : ∀ u ∈ flatE es, u.oneCell' = true := by
  intro u hu
  obtain ⟨x, _, hx⟩ := List.mem_flatMap.1 hu
  simp only [Eg.cells, List.mem_cons, List.not_mem_nil, or_false] at hx
  rcases hx with rfl | rfl | rfl | rfl | rfl | rfl | rfl <;> rfl
theorem flatE_at {es : List Eg} {i : Nat} {x : Eg} (h : es[i]? = some x) {m : Nat} (hm : m < 7) : (flatE es)[7 * i + m]? = x.cells[m]? := by
  induction es generalizing i with
  | nil => simp at h
  | cons y r ih =>
    have hf : flatE (y :: r) = y.cells ++ flatE r := by simp [flatE]
    have hy : y.cells.length = 7 := rfl
    rw [hf]
    cases i with
    | zero =>
      simp at h
      subst h
      rw [List.getElem?_append_left (by omega)]
      simp
    | succ i =>
      rw [List.getElem?_append_right (by omega), hy, show 7 * (i + 1) + m - 7 = 7 * i + m by omega]
      exact ih (by simpa using h)
/-- A ROW OF EDGES OF THE CALL's OWN. -/
def RowE (w : World) (base : Nat) (V : Value) (es : List Eg) : Prop := w.ownsRow base 57 7 V es.length (flatE es)
theorem infoE : (Try.prog.info? 57).map (fun i => (i.zero, i.size, i.bytes)) = some (some (.agg #[.int .i64 0, .int .i64 0, .int .i64 0, .int .u64 0, .int .u64 0, .int .u64 0, .int .u64 0]), 7, 56) := by kernel_rfl
theorem rowE_nil (w : World) (base : Nat) : RowE w base (.slice none 0 0) [] := World.ownsRow_nil w base 57 7
theorem RowE.ty {w : World} {base : Nat} {V : Value} {es : List Eg} (h : RowE w base V es) : ∀ b, V.ownBlock = some b → base ≤ b ∧ TyB w 57 b := by
  intro b hb
  rcases h.2 with ⟨rfl, _⟩ | ⟨g, cap, cur, rfl, hbg, hg, _⟩
  · simp [Value.ownBlock] at hb
  · simp [Value.ownBlock] at hb
    subst hb
    exact ⟨hbg, ⟨_, _, hg⟩⟩
theorem RowE.keep {w w' : World} {base : Nat} {V : Value} {es : List Eg} (h : RowE w base V es) (hk : ∀ b, base ≤ b → b < w.heap.size → TyB w 57 b → w'.heap[b]? = w.heap[b]?) : RowE w' base V es := by
  refine ⟨h.1, ?_⟩
  rcases h.2 with h6 | ⟨g, cap, cur, rfl, hBg, hg, rest⟩
  · exact Or.inl h6
  · exact Or.inr ⟨g, cap, cur, rfl, hBg, (hk g hBg (Array.getElem?_eq_some_iff.1 hg).1 ⟨_, _, hg⟩).trans hg, rest⟩
theorem RowE.form {w : World} {base : Nat} {V : Value} {es : List Eg} (h : RowE w base V es) : ∃ a c, V = .slice a es.length c ∧ es.length ≤ c ∧ c ≤ maxLen := by
  rcases h.2 with ⟨hv, hn⟩ | ⟨g, cap, cur, hv, hbg, hg, h1, h2, h3, h4⟩
  · exact ⟨none, 0, by rw [hv, hn], by omega, by decide⟩
  · exact ⟨_, _, hv, h1, h2⟩
/-- THE FRAME OF THE MAKER's METHODS: all stands but its block and, from a place on, blocks of edges. -/
structure Fm (b0 B : Nat) (w w' : World) : Prop where
  os : w'.os = w.os
  tape : w'.tape = w.tape
  output : w'.output = w.output
  size : w.heap.size ≤ w'.heap.size
  block : ∀ k, k < w.heap.size → k ≠ B → (b0 ≤ k → ¬ TyB w 57 k) → w'.heap[k]? = w.heap[k]?
section
variable {b0 B : Nat} {w u w' : World}
theorem Fm.refl (b0 B : Nat) (w : World) : Fm b0 B w w := ⟨rfl, rfl, rfl, Nat.le_refl _, fun _ _ _ _ => rfl⟩
theorem Fm.trans (h : Fm b0 B w u) (h2 : Fm b0 B u w') : Fm b0 B w w' :=
  ⟨h2.os.trans h.os, h2.tape.trans h.tape, h2.output.trans h.output, Nat.le_trans h.size h2.size, fun k hk hne ht => by
    have e := h.block k hk hne ht
    exact (h2.block k (Nat.lt_of_lt_of_le hk h.size) hne (fun hb ht3 => ht hb (ht3.same e.symm))).trans e⟩
theorem Fm.later (h : Fm b0 B w u) (hb : Below u.heap.size u w') : Fm b0 B w w' :=
  ⟨hb.os.trans h.os, hb.tape.trans h.tape, hb.output.trans h.output, Nat.le_trans h.size hb.size, fun k hk hne ht => (hb.block k (Nat.lt_of_lt_of_le hk h.size)).trans (h.block k hk hne ht)⟩
theorem Fm.of_below (b0 B : Nat) (hb : Below w.heap.size w w') : Fm b0 B w w' := (Fm.refl b0 B w).later hb
theorem Fm.set (b0 B : Nat) (w : World) (j : Nat) (v : Value) : Fm b0 B w (w.setCell ⟨B, j, none⟩ v) :=
  ⟨rfl, rfl, rfl, by simp [World.setCell], fun k _ hk _ => Below.heap_setCell w ⟨B, j, none⟩ v k hk⟩
theorem Fm.grown (h : Fm b0 B w u) {r : Option Nat} (hg : u.grownBy w' r) (hr : ∀ k, r = some k → b0 ≤ k ∧ TyB u 57 k) : Fm b0 B w w' :=
  ⟨hg.os.trans h.os, hg.tape.trans h.tape, hg.output.trans h.output, Nat.le_trans h.size hg.size, fun k hk hne ht => by
    have e := h.block k hk hne ht
    refine (hg.block k (Nat.lt_of_lt_of_le hk h.size) (fun e2 => ?_)).trans e
    obtain ⟨h1, h2⟩ := hr k e2.symm
    exact ht h1 (h2.same e.symm)⟩
theorem Fm.keep (h : Fm b0 B w w') {A : Nat} {c : Array Value} {t : TypeId} {z : Nat × Nat} (hA : w.heap[A]? = some (.cells c t z)) (hne : A ≠ B) (ht : t ≠ 57) : w'.heap[A]? = some (.cells c t z) :=
  (h.block A (Array.getElem?_eq_some_iff.1 hA).1 hne (fun _ h3 => ht (TyB.ne ⟨c, z, hA⟩ h3))).trans hA
theorem Fm.below (h : Fm b0 B w w') (hB : b0 ≤ B) (hb : b0 ≤ w.heap.size) : Below b0 w w' :=
  ⟨h.os, h.tape, h.output, h.size, fun k hk => h.block k (by omega) (by omega) (fun h2 => by omega)⟩
end
/-- THE MAKER's BLOCK. -/
def MB (w : World) (b0 B : Nat) (m : Mk) : Prop :=
  b0 ≤ B ∧ ∃ V, w.heap[B]? = some (.cells #[.int .i64 (m.S : Nat), V] 79 (0, 0)) ∧ RowE w b0 V m.es
section
variable {w w' : World} {b0 B : Nat} {m : Mk}
theorem MB.lt (h : MB w b0 B m) : B < w.heap.size := by
  obtain ⟨_, V, h1, _⟩ := h
  exact (Array.getElem?_eq_some_iff.1 h1).1
theorem MB.ty (h : MB w b0 B m) : TyB w 79 B := by
  obtain ⟨_, V, h1, _⟩ := h
  exact ⟨_, _, h1⟩
theorem MB.ne (h : MB w b0 B m) {A : Nat} {t : TypeId} (hA : TyB w t A) (ht : t ≠ 79) : A ≠ B := fun e => ht (TyB.ne (e ▸ hA) h.ty)
theorem MB.cells (h : MB w b0 B m) : ∃ o c, w.cell? ⟨B, 0, none⟩ = some (.int .i64 (m.S : Nat)) ∧ w.cell? ⟨B, 1, none⟩ = some (.slice o m.es.length c) := by
  obtain ⟨_, V, h1, h2⟩ := h
  obtain ⟨a, c, rfl, _⟩ := h2.form
  exact ⟨a, c, by simp [World.cell?, h1], by simp [World.cell?, h1]⟩
theorem MB.frozen (h : MB w b0 B m) (j : Nat) : w.frozen? ⟨B, j, none⟩ = false := by
  obtain ⟨_, V, h1, _⟩ := h
  simp [World.frozen?, h1]
theorem MB.later (h : MB w b0 B m) (hb : Below w.heap.size w w') : MB w' b0 B m := by
  have hlt := h.lt
  obtain ⟨h0, V, h1, h2⟩ := h
  exact ⟨h0, V, (hb.block B hlt).trans h1, h2.keep (fun b _ hlt _ => hb.block b hlt)⟩
theorem MB.grown (h : MB w b0 B m) {r : Option Nat} (hg : w.grownBy w' r) (hr : ∀ k, r = some k → ¬ (TyB w 57 k ∨ TyB w 79 k)) : MB w' b0 B m := by
  have hlt := h.lt
  have hty := h.ty
  obtain ⟨h0, V, h1, h2⟩ := h
  exact ⟨h0, V, (hg.block B hlt (fun e => hr B e.symm (Or.inr hty))).trans h1, h2.keep (fun b _ hlt ht => hg.block b hlt (fun e => hr b e.symm (Or.inl ht)))⟩
end
theorem state_any (B b0 : Nat) (m : Mk) (w : World) (h : MB w b0 B m) (hS : m.S ≤ 1000000) : Calls Try.prog 59 #[.pointer (some ⟨B, 0, none⟩)] w fun e w' => e = .returned (.int .i64 (m.S : Nat)) ∧ MB w' b0 B m.st ∧ Fm b0 B w w' := by
  obtain ⟨o, c, c0, c1⟩ := h.cells
  have f0 := h.frozen 0
  have HF : Hid (Fm b0 B w (w.setCell ⟨B, 0, none⟩ (.int .i64 ((m.S : Int) + 1)))) := Fm.set b0 B w 0 _
  have HM : Hid (MB (w.setCell ⟨B, 0, none⟩ (.int .i64 ((m.S : Int) + 1))) b0 B m.st) := by
    have hty := h.ty
    obtain ⟨h0, V, h1, h2⟩ := h
    refine ⟨h0, V, ?_, h2.keep (fun b _ hlt ht => Below.heap_setCell w ⟨B, 0, none⟩ _ b (fun e => by have e : b = B := e; exact absurd (TyB.ne (e ▸ ht) hty) (by decide)))⟩
    rw [heap_set h1]
    simp [Mk.st]
  clear h
  go_enter Try.func59, Try.ntmps59
  go_wp2
  go_ret
  exact ⟨rfl, HM.out, HF.out⟩
end Go.Proofs.Ytjmbimgofceanaa

/- The maker's edge and free. -/
namespace Go.Proofs.Ytjmbimgofceanaa
open Go.RowKit
attribute [local go_sem ↓] Go.wp_at_zero Go.wp_at_succ

/-- the maker's block behind an edge's own block, its list gone on by one, and laid down -/
theorem MB.put {w w3 : World} {b0 B : Nat} {m : Mk} {o : Option Addr} {c g cap n : Nat} {e : Eg} {ob : Obj} (hn : m.es.length = n) (h : MB w b0 B m) (hc : w.cell? ⟨B, 1, none⟩ = some (.slice o n c)) 
    (hr : RowE w3 b0 (.slice (some ⟨g, 0, none⟩) (n + 1) cap) (m.es ++ [e])) (hg : (w.alloc ob).grownBy w3 (Value.slice o n c).ownBlock) :
    MB (w3.setCell ⟨B, 1, none⟩ (.slice (some ⟨g, 0, none⟩) (n + 1) cap)) b0 B (m.ed e) ∧ Fm b0 B w (w3.setCell ⟨B, 1, none⟩ (.slice (some ⟨g, 0, none⟩) (n + 1) cap)) ∧ w3.cell? ⟨B, 1, none⟩ = some (.slice o n c) ∧ w3.frozen? ⟨B, 1, none⟩ = false := by
  subst hn
  have hlt := h.lt
  have hal : Below w.heap.size w (w.alloc ob) := (Below.refl _ _).alloc (Nat.le_refl _) _
  obtain ⟨hB, V, h1, h2⟩ := h
  have hV : V = .slice o m.es.length c := by
    simp only [World.cell?, h1] at hc
    simpa using hc
  subst hV
  have hob : ∀ k, (Value.slice o m.es.length c).ownBlock = some k → b0 ≤ k ∧ TyB (w.alloc ob) 57 k := fun k hk => by
    obtain ⟨q1, q2⟩ := h2.ty k hk
    obtain ⟨cc, z, q3⟩ := q2
    exact ⟨q1, TyB.same ⟨cc, z, q3⟩ (hal.block k (Array.getElem?_eq_some_iff.1 q3).1)⟩
  have hneB : (Value.slice o m.es.length c).ownBlock ≠ some B := fun e => absurd (TyB.ne (h2.ty B e).2 ⟨_, _, h1⟩) (by decide)
  have h3 : w3.heap[B]? = some (.cells #[.int .i64 (m.S : Nat), .slice o m.es.length c] 79 (0, 0)) := (hg.block B (Nat.lt_of_lt_of_le hlt hal.size) (fun e => hneB e.symm)).trans ((hal.block B hlt).trans h1)
  refine ⟨⟨hB, .slice (some ⟨g, 0, none⟩) (m.es.length + 1) cap, ?_, ?_⟩, ?_, by simp [World.cell?, h3], by simp [World.frozen?, h3]⟩
  · rw [heap_set h3]
    simp [Mk.ed]
  · have hr' : RowE w3 b0 (.slice (some ⟨g, 0, none⟩) (m.es.length + 1) cap) (m.ed e).es := hr
    exact hr'.keep (fun b _ hlt ht => Below.heap_setCell w3 ⟨B, 1, none⟩ _ b (fun e => by have e : b = B := e; exact absurd (TyB.ne (e ▸ ht) ⟨_, _, h3⟩) (by decide)))
  · exact ((Fm.of_below b0 B hal).grown hg hob).trans (Fm.set b0 B w3 1 _)
theorem rowE_snoc {w : World} {b0 g cap n : Nat} {es : List Eg} {e : Eg} (hn : es.length = n) (h : w.ownsRow b0 57 7 (.slice (some ⟨g, 0, none⟩) (n + 1) cap) (n + 1) (flatE es ++ e.cells)) : RowE w b0 (.slice (some ⟨g, 0, none⟩) (n + 1) cap) (es ++ [e]) := by
  subst hn
  unfold RowE
  rw [List.length_append, flatE_append]
  have e1 : flatE [e] = e.cells := by simp [flatE]
  rw [e1]
  exact h
set_option maxRecDepth 4000 in
set_option maxHeartbeats 8000000 in
theorem edge_any (B b0 : Nat) (m : Mk) (e : Eg) (w : World) (h : MB w b0 B m) (hb : b0 ≤ w.heap.size) (hl : m.es.length ≤ 1000000) : Calls Try.prog 60 #[.pointer (some ⟨B, 0, none⟩), .int .i64 e.k, .int .i64 e.f, .int .i64 e.t, setV e.s] w fun x w' => x = .returned (.tuple #[]) ∧ MB w' b0 B (m.ed e) ∧ Fm b0 B w w' := by
  obtain ⟨i0, hi, hz0, hz1, hz2⟩ := info_parts infoE
  have kk : Below w.heap.size w (w.alloc (.cells #[.int .u64 (Oct.word e.s 0 : Nat), .int .u64 (Oct.word e.s 1 : Nat), .int .u64 (Oct.word e.s 2 : Nat), .int .u64 (Oct.word e.s 3 : Nat)] 27)) := (Below.refl _ _).alloc (Nat.le_refl _) _
  have HM : Hid (MB (w.alloc (.cells #[.int .u64 (Oct.word e.s 0 : Nat), .int .u64 (Oct.word e.s 1 : Nat), .int .u64 (Oct.word e.s 2 : Nat), .int .u64 (Oct.word e.s 3 : Nat)] 27)) b0 B m) := h.later kk
  have HF : Hid (Fm b0 B w (w.alloc (.cells #[.int .u64 (Oct.word e.s 0 : Nat), .int .u64 (Oct.word e.s 1 : Nat), .int .u64 (Oct.word e.s 2 : Nat), .int .u64 (Oct.word e.s 3 : Nat)] 27))) := Fm.of_below b0 B kk
  have HZ : Hid (b0 ≤ (w.alloc (.cells #[.int .u64 (Oct.word e.s 0 : Nat), .int .u64 (Oct.word e.s 1 : Nat), .int .u64 (Oct.word e.s 2 : Nat), .int .u64 (Oct.word e.s 3 : Nat)] 27)).heap.size) := Nat.le_trans hb kk.size
  have HS : Hid ((w.alloc (.cells #[.int .u64 (Oct.word e.s 0 : Nat), .int .u64 (Oct.word e.s 1 : Nat), .int .u64 (Oct.word e.s 2 : Nat), .int .u64 (Oct.word e.s 3 : Nat)] 27)).heap[w.heap.size]? = some (.cells #[.int .u64 (Oct.word e.s 0 : Nat), .int .u64 (Oct.word e.s 1 : Nat), .int .u64 (Oct.word e.s 2 : Nat), .int .u64 (Oct.word e.s 3 : Nat)] 27 (0, 0))) := heap_alloc_new w _
  obtain ⟨w1, hw1⟩ : ∃ w1, w.alloc (.cells #[.int .u64 (Oct.word e.s 0 : Nat), .int .u64 (Oct.word e.s 1 : Nat), .int .u64 (Oct.word e.s 2 : Nat), .int .u64 (Oct.word e.s 3 : Nat)] 27) = w1 := ⟨_, rfl⟩
  rw [hw1] at HM HF HZ HS
  obtain ⟨Y, hY⟩ : ∃ Y, w.heap.size = Y := ⟨_, rfl⟩
  rw [hY] at HS
  have HW1 : Hid (w.alloc (.cells #[.int .u64 (Oct.word e.s 0 : Nat), .int .u64 (Oct.word e.s 1 : Nat), .int .u64 (Oct.word e.s 2 : Nat), .int .u64 (Oct.word e.s 3 : Nat)] 27) = w1) := hw1
  have HYY : Hid (w.heap.size = Y) := hY
  have HL : Hid (m.es.length ≤ 1000000) := hl
  clear hw1 hY kk h hb hl
  unfold setV
  obtain ⟨k, f, t, s⟩ := e
  simp only at HW1 HS ⊢
  go_enter Try.func60, Try.ntmps60
  go_upto_region 1 with fail
  rw [HW1.out, HYY.out]
  clear HW1 HYY
  obtain ⟨o, c, c0, c1⟩ := HM.out.cells
  have s0 : w1.cell? ⟨Y, 0, none⟩ = some (.int .u64 (Oct.word s 0 : Nat)) := by simp [World.cell?, HS.out]
  have s1 : w1.cell? ⟨Y, 1, none⟩ = some (.int .u64 (Oct.word s 1 : Nat)) := by simp [World.cell?, HS.out]
  have s2 : w1.cell? ⟨Y, 2, none⟩ = some (.int .u64 (Oct.word s 2 : Nat)) := by simp [World.cell?, HS.out]
  have s3 : w1.cell? ⟨Y, 3, none⟩ = some (.int .u64 (Oct.word s 3 : Nat)) := by simp [World.cell?, HS.out]
  have HRW : Hid (RowE w1 b0 (.slice o m.es.length c) m.es) := by
    obtain ⟨hB, V, h1, h2⟩ := HM.out
    have hV : V = .slice o m.es.length c := by
      simp only [World.cell?, h1] at c1
      simpa using c1
    subst hV
    exact h2
  obtain ⟨n, hn⟩ : ∃ n, m.es.length = n := ⟨_, rfl⟩
  have HBL : Hid (B < w1.heap.size) := HM.out.lt
  have c1f := HM.out.frozen 1
  rw [hn] at c1
  have HC1 : Hid (w1.cell? ⟨B, 1, none⟩ = some (.slice o n c)) := c1
  have hz1c : ∀ ob : Obj, (w1.alloc ob).drew.cell? ⟨B, 1, none⟩ = some (.slice o n c) := fun ob => (World.cell?_of_block (w := w1) (Below.heap_alloc w1 ob B HBL.out)).trans c1
  have hz1f : ∀ ob : Obj, (w1.alloc ob).drew.frozen? ⟨B, 1, none⟩ = false := fun ob => (World.frozen?_of_block (w := w1) (Below.heap_alloc w1 ob B HBL.out)).trans c1f
  have HN : Hid (m.es.length = n) := hn
  have hn6 : n ≤ 1000000 := by have := HL.out; omega
  have HRN : Hid (w1.ownsRow b0 57 7 (.slice o n c) n (flatE m.es)) := by have := HRW.out; unfold RowE at this; rw [hn] at this; exact this
  clear hn
  go_region_law
    ((refine step_append_lies _ (by rfl) _ _ _ (by rfl) b0 57 i0 _ 7 56 Try.underlying35 hi hz0 hz1 hz2 rfl (by omega) (.slice o n c) n _ (by rfl) ((HRN.out.alloc _).drew)
        ⟨w1.heap.size, 0, none⟩ 1 1 (Eg.cells ⟨k, f, t, s⟩) (by rfl) (by rfl) (World.news_of_block (cs := #[.int .i64 k, .int .i64 f, .int .i64 t, .int .u64 (Oct.word s 0 : Nat), .int .u64 (Oct.word s 1 : Nat), .int .u64 (Oct.word s 2 : Nat), .int .u64 (Oct.word s 3 : Nat)]) (t := 57) (fr := (0, 0)) (heap_alloc_new w1 _)) (by have := flatE_one [⟨k, f, t, s⟩]; simpa [flatE] using this)
        (by omega) (by unfold maxLen; omega) (by omega) (by have := HZ.out; simp <;> omega) (w1.heap.size + 1) (by simp) ?_; intro g cap w3 hown hgrow hat hlt; have HO : Hid (RowE w3 b0 (.slice (some ⟨g, 0, none⟩) (n + 1) cap) (m.es ++ [⟨k, f, t, s⟩])) := rowE_snoc HN.out hown; have HG : Hid ((w1.alloc (.cells #[.int .i64 k, .int .i64 f, .int .i64 t, .int .u64 (Oct.word s 0 : Nat), .int .u64 (Oct.word s 1 : Nat), .int .u64 (Oct.word s 2 : Nat), .int .u64 (Oct.word s 3 : Nat)] 57)).grownBy w3 (Value.slice o n c).ownBlock) := ⟨hgrow.os, hgrow.tape, hgrow.output, hgrow.size, hgrow.block⟩; obtain ⟨q1, q2, z1, z2⟩ := MB.put HN.out HM.out HC1.out HO.out HG.out; have HQ1 : Hid (MB (w3.setCell ⟨B, 1, none⟩ (.slice (some ⟨g, 0, none⟩) (n + 1) cap)) b0 B (m.ed ⟨k, f, t, s⟩)) := q1; have HQ2 : Hid (Fm b0 B w1 (w3.setCell ⟨B, 1, none⟩ (.slice (some ⟨g, 0, none⟩) (n + 1) cap))) := q2; clear q1 q2 hown hgrow hat HO HG))
  all_goals
    go_wp2
    go_end0
    exact ⟨rfl, HQ1.out, HF.out.trans HQ2.out⟩
set_option maxRecDepth 4000 in
theorem free_any (B b0 : Nat) (m : Mk) (a b : Nat) (w : World) (h : MB w b0 B m) (hb : b0 ≤ w.heap.size) (hl : m.es.length ≤ 1000000) : Calls Try.prog 61 #[.pointer (some ⟨B, 0, none⟩), .int .i64 (a : Nat), .int .i64 (b : Nat)] w fun x w' => x = .returned (.tuple #[]) ∧ MB w' b0 B (m.fr a b) ∧ Fm b0 B w w' := by
  have HC : Hid (Calls Try.prog 60 #[.pointer (some ⟨B, 0, none⟩), .int .i64 1, .int .i64 (a : Nat), .int .i64 (b : Nat), setV Oct.none] w _) := edge_any B b0 m ⟨1, a, b, Oct.none⟩ w h hb hl
  unfold setV at HC
  rw [word0, word0, word0, word0] at HC
  clear h hb hl
  go_enter Try.func61, Try.ntmps61
  go_wp2_with fail
  refine HC.out.mono ?_
  rintro x w2 ⟨rfl, h1, h2⟩
  have H1 : Hid (MB w2 b0 B (m.fr a b)) := h1
  have H2 : Hid (Fm b0 B w w2) := h2
  clear h1 h2
  go_wp2
  go_end0
  exact ⟨rfl, H1.out, H2.out⟩
end Go.Proofs.Ytjmbimgofceanaa

/- The maker's methods: the state between two calls; rows of numbers of the call's own. -/
namespace Go.Proofs.Ytjmbimgofceanaa
open Go.RowKit

theorem below_low {b c : Nat} {w w' : World} (h : Below b w w') (hc : c ≤ b) : Below c w w' := ⟨h.os, h.tape, h.output, h.size, fun k hk => h.block k (Nat.lt_of_lt_of_le hk hc)⟩
theorem below_two {b : Nat} {w u v : World} (h : Below b w u) (h2 : Below b u v) : Below b w v :=
  ⟨h2.os.trans h.os, h2.tape.trans h.tape, h2.output.trans h.output, Nat.le_trans h.size h2.size, fun k hk => (h2.block k hk).trans (h.block k hk)⟩
theorem InAt.later {w w' : World} {t : Tn} {x : Nd} (h : InAt w t x) (hb : Below w.heap.size w w') : InAt w' t x := by
  induction h with
  | mk k s subs mn mx a n c vs hn hl hm hr hs ih => exact .mk k s subs mn mx a n c vs hn hl hm (hr.keep (fun _ h _ => h) (fun b _ hlt => hb.block b hlt)) (fun i t v ht hv => ih i t v ht hv)
/-- A ROW OF NUMBERS OF THE CALL's OWN. -/
def RowI (w : World) (base : Nat) (V : Value) (l : List Nat) : Prop := w.ownsRow base 3 1 V l.length (l.map fun a => Value.int .i64 (a : Nat))
theorem info3 : (Try.prog.info? 3).map (fun i => (i.zero, i.size, i.bytes)) = some (some (.int .i64 0), 1, 8) := by kernel_rfl
theorem rowI_nil (w : World) (base : Nat) : RowI w base (.slice none 0 0) [] := World.ownsRow_nil w base 3 1
theorem RowI.ty {w : World} {base : Nat} {V : Value} {l : List Nat} (h : RowI w base V l) : ∀ b, V.ownBlock = some b → base ≤ b ∧ TyB w 3 b := by
  intro b hb
  rcases h.2 with ⟨rfl, _⟩ | ⟨g, cap, cur, rfl, hbg, hg, _⟩
  · simp [Value.ownBlock] at hb
  · simp [Value.ownBlock] at hb
    subst hb
    exact ⟨hbg, ⟨_, _, hg⟩⟩
theorem RowI.keep {w w' : World} {base : Nat} {V : Value} {l : List Nat} (h : RowI w base V l) (hk : ∀ b, base ≤ b → b < w.heap.size → TyB w 3 b → w'.heap[b]? = w.heap[b]?) : RowI w' base V l := by
  refine ⟨h.1, ?_⟩
  rcases h.2 with h6 | ⟨g, cap, cur, rfl, hBg, hg, rest⟩
  · exact Or.inl h6
  · exact Or.inr ⟨g, cap, cur, rfl, hBg, (hk g hBg (Array.getElem?_eq_some_iff.1 hg).1 ⟨_, _, hg⟩).trans hg, rest⟩
theorem RowI.form {w : World} {base : Nat} {V : Value} {l : List Nat} (h : RowI w base V l) : ∃ (a : Option Addr) (c : Nat), V = .slice a l.length c ∧ l.length ≤ c ∧ c ≤ maxLen := by
  rcases h.2 with ⟨hv, hn⟩ | ⟨g, cap, cur, hv, hbg, hg, h1, h2, h3, h4⟩
  · exact ⟨none, 0, by rw [hv, hn], by omega, by decide⟩
  · exact ⟨_, cap, hv, h1, h2⟩
theorem RowI.at {w : World} {base : Nat} {a : Option Addr} {n c : Nat} {l : List Nat} (h : RowI w base (.slice a n c) l) {j x : Nat} (hx : l[j]? = some x) : ∃ g, a = some ⟨g, 0, none⟩ ∧ w.cell? ⟨g, j, none⟩ = some (.int .i64 (x : Nat)) := by
  have hj := (List.getElem?_eq_some_iff.1 hx).1
  rcases h.2 with ⟨hv, hn⟩ | ⟨g, cap, cur, hv, hbg, hg, h1, h2, h3, h4⟩
  · omega
  · cases hv
    refine ⟨g, rfl, ?_⟩
    have e : (l.map fun a => Value.int .i64 (a : Nat))[j]? = some (.int .i64 (x : Nat)) := by rw [List.getElem?_map, hx]; rfl
    rw [← h4, List.getElem?_take_of_lt (by omega)] at e
    simp only [World.cell?, hg]
    simpa using e
theorem wpList_append_int {w : World} {ops : Array Oper} {rest : List Oper} {o : Oper} {a : Act} {Q : Exit → Act → World → Prop} (hgd : o.guard = none) (s y : Operand)
    (ho : o.op = .call { callee := .builtin .append, args := #[s, y], argTypes := #[96, 96] })
    (base : Nat) (V : Value) (l : List Nat) (hs : a.eval s = V) (hn : RowI w base V l) (ad : Addr) (cap : Nat) (x : Nat) (hy : a.eval y = .slice (some ad) 1 cap) (hc : w.cell? ad = some (.int .i64 (x : Nat))) (hl : l.length ≤ 2000000) (hb : base ≤ w.heap.size)
    (h : ∀ g cap' w', RowI w' base (.slice (some ⟨g, 0, none⟩) (l.length + 1) cap') (l ++ [x]) → w.grownBy w' V.ownBlock → wpList Try.prog ops Q rest (a.put o.dst (.slice (some ⟨g, 0, none⟩) (l.length + 1) cap')) w') : wpList Try.prog ops Q (o :: rest) a w := by
  refine wpList_plain hgd fun K hK => ?_
  obtain ⟨i0, hi, hz0, hz1, hz2⟩ := info_parts info3
  obtain ⟨g, cap', w', hr, ho2, hg, hgg, hlt⟩ := run_append_lies (P := Try.prog) w 96 o.type base 3 i0 _ 1 8 Try.underlying96 hi hz0 hz1 hz2 rfl (by decide) V l.length _ hn ad 1 cap [.int .i64 (x : Nat)] rfl
    (fun j v hj => by
      cases j with
      | zero => simp at hj; subst hj; simpa [Addr.add] using hc
      | succ j => simp at hj) (fun v hv => by simp at hv; subst hv; rfl) (by decide) (by simp only [maxLen]; omega) (by omega) hb w.heap.size rfl
  unfold Oper.wp execOp
  simp only [ho, resolve, invoke, builtin, Sem.run_bind, Sem.run_pure, Result.andThen_ok, List.map_toArray, List.map_cons, List.map_nil, hs, hy, hr]
  refine hK _ _ (h g cap' w' ?_ hg)
  unfold RowI
  rw [List.length_append, List.map_append]
  exact ho2
theorem frees_step {l : List Nat} {i x : Nat} (h : l[i]? = some x) (s : Nat) (m : Mk) : frees (l.drop i) s m = frees (l.drop (i + 1)) s (m.fr x s) := by
  have hlt := (List.getElem?_eq_some_iff.1 h).1
  rw [List.drop_eq_getElem_cons hlt, (List.getElem?_eq_some_iff.1 h).2, frees]
/-- THE STATE of a method of the maker that looks at a node. -/
structure Sm (w0 : World) (b0 B A : Nat) (x : Nd) (w u : World) (m : Mk) : Prop where
  mb : MB u b0 B m
  nb : NB u A x
  fm : Fm b0 B w u
  low : Below w0.heap.size w0 u
  sz : b0 ≤ u.heap.size
  h0 : w0.heap.size ≤ b0
section
variable {w0 : World} {b0 B A : Nat} {x : Nd} {w u u' : World} {m m' : Mk}
theorem Sm.later (h : Sm w0 b0 B A x w u m) (hb : Below u.heap.size u u') : Sm w0 b0 B A x w u' m :=
  ⟨h.mb.later hb, h.nb.later hb, h.fm.later hb, below_two h.low (below_low hb h.low.size), Nat.le_trans h.sz hb.size, h.h0⟩
theorem Sm.call (h : Sm w0 b0 B A x w u m) (hm : MB u' b0 B m') (hf : Fm b0 B u u') : Sm w0 b0 B A x w u' m' :=
  ⟨hm, hf.keep h.nb (h.mb.ne ⟨_, _, h.nb⟩ (by decide)) (by decide), h.fm.trans hf, below_two h.low (below_low (hf.below h.mb.1 h.sz) h.h0), Nat.le_trans h.sz hf.size, h.h0⟩
theorem Sm.own (h : Sm w0 b0 B A x w u m) {r : Option Nat} (hg : u.grownBy u' r) (hr : ∀ k, r = some k → w.heap.size ≤ k ∧ TyB u 3 k) (hw : b0 ≤ w.heap.size) : Sm w0 b0 B A x w u' m := by
  refine ⟨h.mb.grown hg (fun k hk h2 => ?_), (hg.block A h.nb.lt (fun e => absurd (TyB.ne (hr A e.symm).2 ⟨_, _, h.nb⟩) (by decide))).trans h.nb, ⟨hg.os.trans h.fm.os, hg.tape.trans h.fm.tape, hg.output.trans h.fm.output, Nat.le_trans h.fm.size hg.size, fun k hk hne ht => ?_⟩, ?_, Nat.le_trans h.sz hg.size, h.h0⟩
  · obtain ⟨_, h1⟩ := hr k hk
    rcases h2 with h2 | h2
    · exact absurd (TyB.ne h1 h2) (by decide)
    · exact absurd (TyB.ne h1 h2) (by decide)
  · exact (hg.block k (Nat.lt_of_lt_of_le hk h.fm.size) (fun e => by have := (hr k e.symm).1; omega)).trans (h.fm.block k hk hne ht)
  · exact ⟨hg.os.trans h.low.os, hg.tape.trans h.low.tape, hg.output.trans h.low.output, Nat.le_trans h.low.size hg.size, fun k hk => (hg.block k (Nat.lt_of_lt_of_le hk h.low.size) (fun e => by have := (hr k e.symm).1; have := h.h0; omega)).trans (h.low.block k hk)⟩
theorem RowI.fm {base : Nat} {V : Value} {l : List Nat} (h : RowI u base V l) (hm : MB u b0 B m) (hf : Fm b0 B u u') : RowI u' base V l :=
  h.keep (fun b _ hlt ht => hf.block b hlt (hm.ne ht (by decide)) (fun _ h2 => absurd (TyB.ne ht h2) (by decide)))
theorem sm_start (w0 : World) (x : Nd) (hm : MB w b0 B m) (hlow : Below w0.heap.size w0 w) (hb : b0 ≤ w.heap.size) (h0 : w0.heap.size ≤ b0) : Sm w0 b0 B w.heap.size x w (w.alloc (.cells #[.int .i64 x.k, .int .u64 (Oct.word x.s 0 : Nat), .int .u64 (Oct.word x.s 1 : Nat), .int .u64 (Oct.word x.s 2 : Nat), .int .u64 (Oct.word x.s 3 : Nat), .slice x.a x.n x.c, .int .i64 x.mn, .int .i64 x.mx] 30)) m := by
  have kk : Below w.heap.size w (w.alloc (.cells #[.int .i64 x.k, .int .u64 (Oct.word x.s 0 : Nat), .int .u64 (Oct.word x.s 1 : Nat), .int .u64 (Oct.word x.s 2 : Nat), .int .u64 (Oct.word x.s 3 : Nat), .slice x.a x.n x.c, .int .i64 x.mn, .int .i64 x.mx] 30)) := (Below.refl _ _).alloc (Nat.le_refl _) _
  exact ⟨hm.later kk, nb_new w x, Fm.of_below b0 B kk, below_two hlow (below_low kk hlow.size), Nat.le_trans hb kk.size, h0⟩
end
/-- WHAT lay SAYS OF A NODE IN MEMORY. -/
def LayOK (w0 : World) (t : Tn) (v : Nd) : Prop := ∀ (w : World) (b0 B : Nat) (m : Mk) (a : Nat), Below w0.heap.size w0 w → w0.heap.size ≤ b0 → b0 ≤ w.heap.size → MB w b0 B m → (lay t m a).1.S ≤ 1000000 → (lay t m a).1.es.length ≤ 1000000 →
  Calls Try.prog 39 #[.pointer (some ⟨B, 0, none⟩), v.val, .int .i64 (a : Nat)] w fun e w' => e = .returned (.int .i64 ((lay t m a).2 : Nat)) ∧ MB w' b0 B (lay t m a).1 ∧ Fm b0 B w w'
end Go.Proofs.Ytjmbimgofceanaa
