/- PartClasses: the mark, one word turned, the state. -/
import Derived.Deep.RegionWith
import Derived.Test.YtemmicnhnaafmaaG12
import Derived.Laws.StructEq
import Derived.Deep.AppendLies
namespace Go.Proofs.Ytemmicnhnaafmaa
open Go.RowKit

theorem wpList_load_arr_g {ops : Array Oper} {rest : List Oper} {o : Oper} {a : Act} {w : World} {Q : Exit → Act → World → Prop} (hw : Region.wanted o (yielded ops a.tmps) = true) (x : Operand) (ho : o.op = .load 38 x) {A : Nat} {f : Nat → Int} (h : AB w A f) (hx : a.eval x = .pointer (some ⟨A, 0, none⟩))
    (hk : wpList Try.prog ops Q rest (a.put o.dst (.agg (cv f))) w) : wpList Try.prog ops Q (o :: rest) a w := by
  show (if Region.wanted o (yielded ops a.tmps) then _ else _)
  rw [if_pos hw]
  exact .inl (wp_load_arr x ho h hx hk)
/-- the set of the statement's own mark -/
def s77 : Oct.S := Oct.ofWords 77 0 0 0
theorem s77_0 : Oct.word s77 0 = 77 := (Oct.ofWords0 77 0 0 0 (by decide)).symm
theorem s77_1 : Oct.word s77 1 = 0 := (Oct.ofWords1 77 0 0 0 (by decide)).symm
theorem s77_2 : Oct.word s77 2 = 0 := (Oct.ofWords2 77 0 0 0 (by decide)).symm
theorem s77_3 : Oct.word s77 3 = 0 := (Oct.ofWords3 77 0 0 0 (by decide)).symm
theorem sl77 (w : World) : SL (w.alloc (.cells #[.int .u64 77, .int .u64 0, .int .u64 0, .int .u64 0] 31)) w.heap.size [s77] := by
  have h : SL (w.alloc (.cells #[.int .u64 (Oct.word s77 0 : Nat), .int .u64 (Oct.word s77 1 : Nat), .int .u64 (Oct.word s77 2 : Nat), .int .u64 (Oct.word s77 3 : Nat)] 31)) w.heap.size [s77] := ⟨heap_alloc_new w _⟩
  rw [s77_0, s77_1, s77_2, s77_3] at h
  exact h
/-- sixteen bits of the second word turned -/
def up1 (s : Oct.S) : Oct.S := Oct.ofWords (Oct.word s 0) (Oct.word s 1 ^^^ 65535) (Oct.word s 2) (Oct.word s 3)
theorem up1_0 (s : Oct.S) : Oct.word (up1 s) 0 = Oct.word s 0 := (Oct.ofWords0 _ _ _ _ (Oct.word_lt s 0)).symm
theorem up1_1 (s : Oct.S) : Oct.word (up1 s) 1 = Oct.word s 1 ^^^ 65535 := (Oct.ofWords1 _ _ _ _ (Nat.xor_lt_two_pow (n := 64) (Oct.word_lt s 1) (by decide))).symm
theorem up1_2 (s : Oct.S) : Oct.word (up1 s) 2 = Oct.word s 2 := (Oct.ofWords2 _ _ _ _ (Oct.word_lt s 2)).symm
theorem up1_3 (s : Oct.S) : Oct.word (up1 s) 3 = Oct.word s 3 := (Oct.ofWords3 _ _ _ _ (Oct.word_lt s 3)).symm
theorem xor_1 (s : Oct.S) : bits .xor .u64 (Oct.word s 1 : Nat) 65535 = (Oct.word (up1 s) 1 : Nat) := by
  rw [up1_1, show (65535 : Int) = ((65535 : Nat) : Int) from rfl, u64_xor_nat _ _ (Oct.word_lt s 1) (by decide)]
def turn (k : Nat) (l : List Oct.S) : List Oct.S := (l.take k).map up1 ++ l.drop k
theorem turn_length (k : Nat) (l : List Oct.S) : (turn k l).length = l.length := by
  simp only [turn, List.length_append, List.length_map, List.length_take, List.length_drop]
  omega
theorem turn_zero (l : List Oct.S) : turn 0 l = l := by simp [turn]
theorem turn_all (l : List Oct.S) : turn l.length l = l.map up1 := by simp [turn]
theorem turn_at (k : Nat) (l : List Oct.S) (s : Oct.S) (hk : l[k]? = some s) : (turn k l)[k]? = some s := by
  have hkl := (List.getElem?_eq_some_iff.1 hk).1
  simp only [turn]
  rw [List.getElem?_append_right (by simp; omega)]
  simp [Nat.min_eq_left (Nat.le_of_lt hkl), hk]
theorem turn_succ (k : Nat) (l : List Oct.S) (s : Oct.S) (hk : l[k]? = some s) : (turn k l).set k (up1 s) = turn (k + 1) l := by
  obtain ⟨hkl, e⟩ := List.getElem?_eq_some_iff.1 hk
  unfold turn
  rw [List.set_append_right _ _ (by simp; omega), List.take_succ_eq_append_getElem hkl, List.map_append, List.append_assoc]
  congr 1
  have hd : l.drop k = l[k] :: l.drop (k + 1) := List.drop_eq_getElem_cons hkl
  rw [hd]
  simp [Nat.min_eq_left (Nat.le_of_lt hkl), e]
/-- numbers that came in -/
def RawAt (w : World) (a : Option Addr) (l : List Int) : Prop := l = [] ∨ ∃ b off, a = some ⟨b, off, none⟩ ∧ ∀ (j : Nat) (x : Int), l[j]? = some x → w.cell? ⟨b, off + j, none⟩ = some (.int .i64 x)
theorem cell_lt {w : World} {a : Addr} {v : Value} (h : w.cell? a = some v) : a.block < w.heap.size := by
  rcases Nat.lt_or_ge a.block w.heap.size with h1 | h1
  · exact h1
  · simp [World.cell?, h1] at h
theorem RawAt.cell {w w' : World} {a : Option Addr} {l : List Int} (h : RawAt w a l) (hb : Below w.heap.size w w') {j : Nat} {x : Int} (hj : l[j]? = some x) : ∃ b off, a = some ⟨b, off, none⟩ ∧ w'.cell? ⟨b, off + j, none⟩ = some (.int .i64 x) ∧ b < w.heap.size := by
  rcases h with rfl | ⟨b, off, rfl, hc⟩
  · simp at hj
  · have h1 := hc j x hj
    exact ⟨b, off, rfl, (hb.cell (p := ⟨b, off + j, none⟩) (cell_lt h1)).trans h1, cell_lt h1⟩
/-- the classes with the first numbers written over -/
def mix (f : Nat → Int) (l : List Int) (k : Nat) (j : Nat) : Int := if j < k then l.getD j (f j) else f j
theorem mix_zero (f : Nat → Int) (l : List Int) : mix f l 0 = f := by funext j; unfold mix; rw [if_neg (by omega)]
theorem mix_succ {f : Nat → Int} {l : List Int} {k : Nat} {x : Int} (h : l[k]? = some x) : (fun j => if j = k then x else mix f l k j) = mix f l (k + 1) := by
  funext j
  unfold mix
  by_cases e : j = k
  · subst e
    rw [if_pos rfl, if_pos (by omega)]
    simp [List.getD, h]
  · rw [if_neg e]
    by_cases h1 : j < k
    · rw [if_pos h1, if_pos (by omega)]
    · rw [if_neg h1, if_neg (by omega)]
/-- THE STATE behind both answers: the list of the law's own in block g, three arrays in theirs. -/
structure Pc (w u : World) (B g c m A7 A10 A12 : Nat) (L : List Oct.S) (f7 f10 f12 : Nat → Int) : Prop where
  row : OwnsS u B (.slice (some ⟨g, 0, none⟩) (m + 1) c) L
  x7 : AB u A7 f7
  x10 : AB u A10 f10
  x12 : AB u A12 f12
  low : Below w.heap.size w u
theorem Pc.later {w u u' : World} {B g c m A7 A10 A12 : Nat} {L : List Oct.S} {f7 f10 f12 : Nat → Int} (h : Pc w u B g c m A7 A10 A12 L f7 f10 f12) (hb : Below u.heap.size u u') : Pc w u' B g c m A7 A10 A12 L f7 f10 f12 :=
  ⟨h.row.later hb, h.x7.later hb, h.x10.later hb, h.x12.later hb, below_trans h.low hb h.low.size⟩
theorem OwnsS.same {w w' : World} {B g n c : Nat} {l : List Oct.S} (h : OwnsS w B (.slice (some ⟨g, 0, none⟩) n c) l) (e : w'.heap[g]? = w.heap[g]?) : OwnsS w' B (.slice (some ⟨g, 0, none⟩) n c) l := by
  refine ⟨⟨h.1.1, ?_⟩, h.2⟩
  rcases h.1.2 with h2 | ⟨g', cap, cur, hv, hBg, hg, rest⟩
  · exact Or.inl h2
  · cases hv
    exact Or.inr ⟨g, c, cur, rfl, hBg, e.trans hg, rest⟩
theorem Pc.put1 {w u : World} {B g c m A7 A10 A12 k : Nat} {L : List Oct.S} {s : Oct.S} {f7 f10 f12 : Nat → Int} (h : Pc w u B g c m A7 A10 A12 L f7 f10 f12) (hL : m + 1 = L.length) (hk : L[k]? = some s) (hd : g ≠ A7 ∧ g ≠ A10 ∧ g ≠ A12 ∧ w.heap.size ≤ g) :
    Pc w (u.setCell ⟨g, k * 4 + 1, none⟩ (.int .u64 (bits .xor .u64 (Oct.word s 1 : Nat) 65535))) B g c m A7 A10 A12 (L.set k (up1 s)) f7 f10 f12 := by
  refine ⟨?_, h.x7.same (Below.heap_setCell u ⟨g, k * 4 + 1, none⟩ _ A7 (fun e => hd.1 e.symm)), h.x10.same (Below.heap_setCell u ⟨g, k * 4 + 1, none⟩ _ A10 (fun e => hd.2.1 e.symm)), h.x12.same (Below.heap_setCell u ⟨g, k * 4 + 1, none⟩ _ A12 (fun e => hd.2.2.1 e.symm)), h.low.setCell hd.2.2.2 _⟩
  refine h.row.put hL k 1 s (up1 s) hk (by decide) _ (by rw [xor_1]; rfl) (fun i h4 hne => ?_)
  have h3 : i = 0 ∨ i = 2 ∨ i = 3 := by omega
  rcases h3 with rfl | rfl | rfl
  · simp [cells4, up1_0]
  · simp [cells4, up1_2]
  · simp [cells4, up1_3]
theorem Pc.row10 {w u : World} {B g c m A7 A10 A12 : Nat} {L : List Oct.S} {f7 f10 f12 : Nat → Int} (h : Pc w u B g c m A7 A10 A12 L f7 f10 f12) (hd : g ≠ A10 ∧ A7 ≠ A10 ∧ A12 ≠ A10 ∧ w.heap.size ≤ A10) (f : Nat → Int) : Pc w (u.setRow A10 (cv f)) B g c m A7 A10 A12 L f7 f f12 :=
  ⟨h.row.same (heap_row _ _ _ _ hd.1), h.x7.same (heap_row _ _ _ _ hd.2.1), h.x10.put f, h.x12.same (heap_row _ _ _ _ hd.2.2.1), below_row h.low hd.2.2.2 _⟩
theorem Pc.row12 {w u : World} {B g c m A7 A10 A12 : Nat} {L : List Oct.S} {f7 f10 f12 : Nat → Int} (h : Pc w u B g c m A7 A10 A12 L f7 f10 f12) (hd : g ≠ A12 ∧ A7 ≠ A12 ∧ A10 ≠ A12 ∧ w.heap.size ≤ A12) (f : Nat → Int) : Pc w (u.setRow A12 (cv f)) B g c m A7 A10 A12 L f7 f10 f :=
  ⟨h.row.same (heap_row _ _ _ _ hd.1), h.x7.same (heap_row _ _ _ _ hd.2.1), h.x10.same (heap_row _ _ _ _ hd.2.2.1), h.x12.put f, below_row h.low hd.2.2.2 _⟩
end Go.Proofs.Ytemmicnhnaafmaa

/- Laid by ext.py: what this seat takes of stages 4 and 7. -/
namespace Go.Proofs.Ytemmicnhnaafmaa
open Go.RowKit
attribute [local go_sem ↓] Go.wp_at_zero Go.wp_at_succ
/-- a block of an element type -/
def TyB (w : World) (t : TypeId) (b : Nat) : Prop := ∃ c z, w.heap[b]? = some (.cells c t z)
theorem TyB.same {w w' : World} {t : TypeId} {b : Nat} (h : TyB w t b) (e : w'.heap[b]? = w.heap[b]?) : TyB w' t b := by
  obtain ⟨c, z, hc⟩ := h
  exact ⟨c, z, e.trans hc⟩
structure Eg where
  k : Int
  f : Int
  t : Int
  s : Oct.S
def Eg.cells (e : Eg) : List Value := [.int .i64 e.k, .int .i64 e.f, .int .i64 e.t, .int .u64 (Oct.word e.s 0 : Nat), .int .u64 (Oct.word e.s 1 : Nat), .int .u64 (Oct.word e.s 2 : Nat), .int .u64 (Oct.word e.s 3 : Nat)]
def flatE (es : List Eg) : List Value := es.flatMap Eg.cells
theorem flatE_length (es : List Eg) : (flatE es).length = 7 * es.length := by
  induction es with
  | nil => rfl
  | cons x r ih => simp only [flatE, List.flatMap_cons, List.length_append, List.length_cons] at ih ⊢; rw [ih]; simp [Eg.cells]; omega
theorem flatE_append (a b : List Eg) : flatE (a ++ b) = flatE a ++ flatE b := by simp [flatE]
theorem flatE_one (es : List Eg) : ∀ u ∈ flatE es, u.oneCell' = true := by
  intro u hu
  obtain ⟨x, _, hx⟩ := List.mem_flatMap.1 hu
  simp only [Eg.cells, List.mem_cons, List.not_mem_nil, or_false] at hx
  rcases hx with rfl | rfl | rfl | rfl | rfl | rfl | rfl <;> rfl
theorem flatE_at {es : List Eg} {i : Nat} {x : Eg} (h : es[i]? = some x) {m : Nat} (hm : m < 7) : (flatE es)[7 * i + m]? = x.cells[m]? := by
  induction es generalizing i with
  | nil => simp at h
  | cons y r ih =>
    have hf : flatE (y :: r) = y.cells ++ flatE r := by simp [flatE]
    have hy : y.cells.length = 7 := rfl
    rw [hf]
    cases i with
    | zero =>
      simp at h
      subst h
      rw [List.getElem?_append_left (by omega)]
      simp
    | succ i =>
      rw [List.getElem?_append_right (by omega), hy, show 7 * (i + 1) + m - 7 = 7 * i + m by omega]
      exact ih (by simpa using h)
/-- A ROW OF EDGES OF THE CALL's OWN. -/
def RowE (w : World) (base : Nat) (V : Value) (es : List Eg) : Prop := w.ownsRow base 33 7 V es.length (flatE es)
theorem infoE : (Try.prog.info? 33).map (fun i => (i.zero, i.size, i.bytes)) = some (some (.agg #[.int .i64 0, .int .i64 0, .int .i64 0, .int .u64 0, .int .u64 0, .int .u64 0, .int .u64 0]), 7, 56) := by kernel_rfl
theorem rowE_nil (w : World) (base : Nat) : RowE w base (.slice none 0 0) [] := World.ownsRow_nil w base 33 7
theorem RowE.ty {w : World} {base : Nat} {V : Value} {es : List Eg} (h : RowE w base V es) : ∀ b, V.ownBlock = some b → base ≤ b ∧ TyB w 33 b := by
  intro b hb
  rcases h.2 with ⟨rfl, _⟩ | ⟨g, cap, cur, rfl, hbg, hg, _⟩
  · simp [Value.ownBlock] at hb
  · simp [Value.ownBlock] at hb
    subst hb
    exact ⟨hbg, ⟨_, _, hg⟩⟩
theorem RowE.keep {w w' : World} {base : Nat} {V : Value} {es : List Eg} (h : RowE w base V es) (hk : ∀ b, base ≤ b → b < w.heap.size → TyB w 33 b → w'.heap[b]? = w.heap[b]?) : RowE w' base V es := by
  refine ⟨h.1, ?_⟩
  rcases h.2 with h6 | ⟨g, cap, cur, rfl, hBg, hg, rest⟩
  · exact Or.inl h6
  · exact Or.inr ⟨g, cap, cur, rfl, hBg, (hk g hBg (Array.getElem?_eq_some_iff.1 hg).1 ⟨_, _, hg⟩).trans hg, rest⟩
theorem RowE.form {w : World} {base : Nat} {V : Value} {es : List Eg} (h : RowE w base V es) : ∃ a c, V = .slice a es.length c ∧ es.length ≤ c ∧ c ≤ maxLen := by
  rcases h.2 with ⟨hv, hn⟩ | ⟨g, cap, cur, hv, hbg, hg, h1, h2, h3, h4⟩
  · exact ⟨none, 0, by rw [hv, hn], by omega, by decide⟩
  · exact ⟨_, _, hv, h1, h2⟩
theorem rowE_snoc {w : World} {b0 g cap n : Nat} {es : List Eg} {e : Eg} (hn : es.length = n) (h : w.ownsRow b0 33 7 (.slice (some ⟨g, 0, none⟩) (n + 1) cap) (n + 1) (flatE es ++ e.cells)) : RowE w b0 (.slice (some ⟨g, 0, none⟩) (n + 1) cap) (es ++ [e]) := by
  subst hn
  unfold RowE
  rw [List.length_append, flatE_append]
  have e1 : flatE [e] = e.cells := by simp [flatE]
  rw [e1]
  exact h
/-- edges one behind the other, from an address on -/
def EAt (X : Nat → Prop) (w : World) (a : Option Addr) (es : List Eg) : Prop := es = [] ∨ ∃ b off, a = some ⟨b, off, none⟩ ∧ X b ∧ ∀ j v, (flatE es)[j]? = some v → w.cell? ⟨b, off + j, none⟩ = some v
theorem lt_of_cell {w : World} {b j : Nat} {v : Value} (h : w.cell? ⟨b, j, none⟩ = some v) : b < w.heap.size := by
  cases hg : w.heap[b]? with
  | none => simp [World.cell?, hg] at h
  | some o => exact (Array.getElem?_eq_some_iff.1 hg).1
theorem EAt.keep {X Y : Nat → Prop} {w w' : World} {a : Option Addr} {es : List Eg} (h : EAt X w a es) (hXY : ∀ b, X b → b < w.heap.size → Y b) (hk : ∀ b, X b → b < w.heap.size → w'.heap[b]? = w.heap[b]?) : EAt Y w' a es := by
  rcases h with h | ⟨b, off, rfl, hX, hc⟩
  · exact Or.inl h
  · cases es with
    | nil => exact Or.inl rfl
    | cons e es =>
      have hlt : b < w.heap.size := lt_of_cell (hc 0 _ rfl)
      exact Or.inr ⟨b, off, rfl, hXY b hX hlt, fun j v hj => (World.cell?_of_block (a := ⟨b, off + j, none⟩) (hk b hX hlt)).trans (hc j v hj)⟩
theorem RowE.at {w : World} {base : Nat} {a : Option Addr} {n c : Nat} {es : List Eg} (h : RowE w base (.slice a n c) es) : n = es.length ∧ EAt (fun b => base ≤ b) w a es := by
  rcases h.2 with ⟨hv, hn⟩ | ⟨g, cap, cur, hv, hbg, hg, h1, h2, h3, h4⟩
  · cases hv
    exact ⟨hn.symm, Or.inl (List.length_eq_zero_iff.1 hn)⟩
  · cases hv
    refine ⟨rfl, Or.inr ⟨g, 0, rfl, hbg, fun j v hj => ?_⟩⟩
    have hlt := (List.getElem?_eq_some_iff.1 hj).1
    rw [flatE_length] at hlt
    rw [← h4, List.getElem?_take_of_lt (by omega)] at hj
    simp only [World.cell?, hg, Nat.zero_add]
    simpa using hj
theorem RowE.later {w w' : World} {base : Nat} {V : Value} {es : List Eg} (h : RowE w base V es) (hb : Below w.heap.size w w') : RowE w' base V es := h.keep (fun b _ hlt _ => hb.block b hlt)
theorem EAt.nth {X : Nat → Prop} {w : World} {a : Option Addr} {es : List Eg} (h : EAt X w a es) {i : Nat} {e : Eg} (hx : es[i]? = some e) : ∃ b off, a = some ⟨b, off, none⟩ ∧ w.cell? ⟨b, off + i * 7, none⟩ = some (.int .i64 e.k) ∧ w.cell? ⟨b, off + i * 7 + 1, none⟩ = some (.int .i64 e.f) ∧ w.cell? ⟨b, off + i * 7 + 2, none⟩ = some (.int .i64 e.t) ∧ w.cell? ⟨b, off + i * 7 + 3, none⟩ = some (.int .u64 (Oct.word e.s 0 : Nat)) ∧ w.cell? ⟨b, off + i * 7 + 4, none⟩ = some (.int .u64 (Oct.word e.s 1 : Nat)) ∧ w.cell? ⟨b, off + i * 7 + 5, none⟩ = some (.int .u64 (Oct.word e.s 2 : Nat)) ∧ w.cell? ⟨b, off + i * 7 + 6, none⟩ = some (.int .u64 (Oct.word e.s 3 : Nat)) := by
  rcases h with h | ⟨b, off, ha, _, hc⟩
  · subst h; simp at hx
  · rw [Nat.mul_comm i 7]
    refine ⟨b, off, ha, ?_, ?_, ?_, ?_, ?_, ?_, ?_⟩
    · exact hc _ _ (flatE_at hx (m := 0) (by decide))
    · rw [Nat.add_assoc]; exact hc _ _ (flatE_at hx (m := 1) (by decide))
    · rw [Nat.add_assoc]; exact hc _ _ (flatE_at hx (m := 2) (by decide))
    · rw [Nat.add_assoc]; exact hc _ _ (flatE_at hx (m := 3) (by decide))
    · rw [Nat.add_assoc]; exact hc _ _ (flatE_at hx (m := 4) (by decide))
    · rw [Nat.add_assoc]; exact hc _ _ (flatE_at hx (m := 5) (by decide))
    · rw [Nat.add_assoc]; exact hc _ _ (flatE_at hx (m := 6) (by decide))
theorem eq4_any (d : Nat) (a b c e : Int) (w : World) : (Op.equalIn (d + 2) 31 (.agg #[.int .u64 a, .int .u64 b, .int .u64 c, .int .u64 e]) (.agg #[.int .u64 a, .int .u64 b, .int .u64 c, .int .u64 e])).run Try.prog w = .ok true w := by
  obtain ⟨i0, hi, hz0, hz1, hz2⟩ := info_parts info29
  have h1 : ∀ x : Int, (Op.equalIn (d + 1) 29 (.int .u64 x) (.int .u64 x)).run Try.prog w = .ok true w := fun x => by
    rw [run_equalIn_int w d 29 .u64 .u64 x x Try.underlying29]; simp
  rw [Op.equalIn]
  simp [run_underlying Try.underlying31, sizeOf, typeInfo, hi, hz1, part, Try.isAgg29, Std.Legacy.Range.forIn_eq_forIn_range', Std.Legacy.Range.size, List.range'_succ, List.range'_zero, h1]
theorem infoSet : (Try.prog.info? 31).map (fun i => (i.zero, i.size, i.bytes)) = some (some (.agg #[.int .u64 0, .int .u64 0, .int .u64 0, .int .u64 0]), 4, 32) := by kernel_rfl
set_option maxRecDepth 4000 in
theorem eq7_same (k f t a b c e : Int) (w : World) : (Op.equalIn 10000 33 (.agg #[.int .i64 k, .int .i64 f, .int .i64 t, .int .u64 a, .int .u64 b, .int .u64 c, .int .u64 e]) (.agg #[.int .i64 k, .int .i64 f, .int .i64 t, .int .u64 a, .int .u64 b, .int .u64 c, .int .u64 e])).run Try.prog w = .ok true w := by
  have h1 : ∀ x : Int, (Op.equalIn 9999 3 (.int .i64 x) (.int .i64 x)).run Try.prog w = .ok true w := fun x => by
    rw [run_equalIn_int w 9998 3 .i64 .i64 x x Try.underlying3]; simp
  have h4 := eq4_any 9997 a b c e w
  rw [show (10000 : Nat) = 9999 + 1 from rfl, run_equalIn_struct w 9999 33 _ _ (by kernel_rfl) (by kernel_rfl)]
  have hf : (Try.prog.fieldsOf 33).toList.map (fun f => (f.name, f.type, f.offset)) = [("Kind", 3, 0), ("From", 3, 1), ("To", 3, 2), ("Set", 31, 3)] := by kernel_rfl
  generalize (Try.prog.fieldsOf 33).toList = fs at hf
  obtain ⟨i0, hi, hz0, hz1, hz2⟩ := info_parts infoSet
  rcases fs with _ | ⟨f1, _ | ⟨f2, _ | ⟨f3, _ | ⟨f4, _ | ⟨f5, fs⟩⟩⟩⟩⟩ <;> simp only [List.map_cons, List.map_nil, List.cons.injEq, Prod.mk.injEq, and_true, reduceCtorEq, and_false] at hf
  obtain ⟨⟨n1, t1, o1⟩, ⟨n2, t2, o2⟩, ⟨n3, t3, o3⟩, ⟨n4, t4, o4⟩⟩ := hf
  simp only [Op.eqFields, n1, n2, n3, n4, t1, t2, t3, t4, o1, o2, o3, o4]
  simp [part, Try.isAgg3, Try.isAgg31, sizeOf, typeInfo, hi, hz1, h1, h4]
theorem wpList_append_edge {w : World} {ops : Array Oper} {rest : List Oper} {o : Oper} {a : Act} {Q : Exit → Act → World → Prop} (hgd : o.guard = none) (s y : Operand)
    (ho : o.op = .call { callee := .builtin .append, args := #[s, y], argTypes := #[22, 22] })
    (base n : Nat) (V : Value) (es : List Eg) (hs : a.eval s = V) (hlen : es.length = n) (hn : RowE w base V es) (ad : Addr) (cap : Nat) (e : Eg) (hy : a.eval y = .slice (some ad) 1 cap) (hc : ∀ j v, e.cells[j]? = some v → w.cell? (ad.add j) = some v) (hl : n ≤ 20000000) (hb : base ≤ w.heap.size)
    (h : ∀ g cap' w', RowE w' base (.slice (some ⟨g, 0, none⟩) (n + 1) cap') (es ++ [e]) → w.grownBy w' V.ownBlock → wpList Try.prog ops Q rest (a.put o.dst (.slice (some ⟨g, 0, none⟩) (n + 1) cap')) w') : wpList Try.prog ops Q (o :: rest) a w := by
  refine wpList_plain hgd fun K hK => ?_
  subst hlen
  obtain ⟨i0, hi, hz0, hz1, hz2⟩ := info_parts infoE
  obtain ⟨g, cap', w', hr, ho2, hg, hgg, hlt⟩ := run_append_lies (P := Try.prog) w 22 o.type base 33 i0 _ 7 56 Try.underlying22 hi hz0 hz1 hz2 rfl (by decide) V es.length _ hn ad 1 cap e.cells rfl hc
    (by have := flatE_one [e]; simpa [flatE] using this) (by decide) (by simp only [maxLen]; omega) (by omega) hb w.heap.size rfl
  unfold Oper.wp execOp
  simp only [ho, resolve, invoke, builtin, Sem.run_bind, Sem.run_pure, Result.andThen_ok, List.map_toArray, List.map_cons, List.map_nil, hs, hy, hr]
  exact hK _ _ (h g cap' w' (rowE_snoc rfl ho2) hg)
def Eg.val (e : Eg) : Value := .agg #[.int .i64 e.k, .int .i64 e.f, .int .i64 e.t, .int .u64 (Oct.word e.s 0 : Nat), .int .u64 (Oct.word e.s 1 : Nat), .int .u64 (Oct.word e.s 2 : Nat), .int .u64 (Oct.word e.s 3 : Nat)]
end Go.Proofs.Ytemmicnhnaafmaa
