/- PartClasses: the mark, one word turned, the state. -/
import Derived.Deep.RegionWith
import Derived.Test.YtemmicnhnaafmaaG12
namespace Go.Proofs.Ytemmicnhnaafmaa
open Go.RowKit

theorem wpList_load_arr_g {ops : Array Oper} {rest : List Oper} {o : Oper} {a : Act} {w : World} {Q : Exit → Act → World → Prop} (hw : Region.wanted o (yielded ops a.tmps) = true) (x : Operand) (ho : o.op = .load 38 x) {A : Nat} {f : Nat → Int} (h : AB w A f) (hx : a.eval x = .pointer (some ⟨A, 0, none⟩))
    (hk : wpList Try.prog ops Q rest (a.put o.dst (.agg (cv f))) w) : wpList Try.prog ops Q (o :: rest) a w := by
  show (if Region.wanted o (yielded ops a.tmps) then _ else _)
  rw [if_pos hw]
  exact .inl (wp_load_arr x ho h hx hk)
/-- the set of the statement's own mark -/
def s77 : Oct.S := Oct.ofWords 77 0 0 0
theorem s77_0 : Oct.word s77 0 = 77 := (Oct.ofWords0 77 0 0 0 (by decide)).symm
theorem s77_1 : Oct.word s77 1 = 0 := (Oct.ofWords1 77 0 0 0 (by decide)).symm
theorem s77_2 : Oct.word s77 2 = 0 := (Oct.ofWords2 77 0 0 0 (by decide)).symm
theorem s77_3 : Oct.word s77 3 = 0 := (Oct.ofWords3 77 0 0 0 (by decide)).symm
theorem sl77 (w : World) : SL (w.alloc (.cells #[.int .u64 77, .int .u64 0, .int .u64 0, .int .u64 0] 31)) w.heap.size [s77] := by
  have h : SL (w.alloc (.cells #[.int .u64 (Oct.word s77 0 : Nat), .int .u64 (Oct.word s77 1 : Nat), .int .u64 (Oct.word s77 2 : Nat), .int .u64 (Oct.word s77 3 : Nat)] 31)) w.heap.size [s77] := ⟨heap_alloc_new w _⟩
  rw [s77_0, s77_1, s77_2, s77_3] at h
  exact h
/-- sixteen bits of the second word turned -/
def up1 (s : Oct.S) : Oct.S := Oct.ofWords (Oct.word s 0) (Oct.word s 1 ^^^ 65535) (Oct.word s 2) (Oct.word s 3)
theorem up1_0 (s : Oct.S) : Oct.word (up1 s) 0 = Oct.word s 0 := (Oct.ofWords0 _ _ _ _ (Oct.word_lt s 0)).symm
theorem up1_1 (s : Oct.S) : Oct.word (up1 s) 1 = Oct.word s 1 ^^^ 65535 := (Oct.ofWords1 _ _ _ _ (Nat.xor_lt_two_pow (n := 64) (Oct.word_lt s 1) (by decide))).symm
theorem up1_2 (s : Oct.S) : Oct.word (up1 s) 2 = Oct.word s 2 := (Oct.ofWords2 _ _ _ _ (Oct.word_lt s 2)).symm
theorem up1_3 (s : Oct.S) : Oct.word (up1 s) 3 = Oct.word s 3 := (Oct.ofWords3 _ _ _ _ (Oct.word_lt s 3)).symm
theorem xor_1 (s : Oct.S) : bits .xor .u64 (Oct.word s 1 : Nat) 65535 = (Oct.word (up1 s) 1 : Nat) := by
  rw [up1_1, show (65535 : Int) = ((65535 : Nat) : Int) from rfl, u64_xor_nat _ _ (Oct.word_lt s 1) (by decide)]
def turn (k : Nat) (l : List Oct.S) : List Oct.S := (l.take k).map up1 ++ l.drop k
theorem turn_length (k : Nat) (l : List Oct.S) : (turn k l).length = l.length := by
  simp only [turn, List.length_append, List.length_map, List.length_take, List.length_drop]
  omega
theorem turn_zero (l : List Oct.S) : turn 0 l = l := by simp [turn]
theorem turn_all (l : List Oct.S) : turn l.length l = l.map up1 := by simp [turn]
theorem turn_at (k : Nat) (l : List Oct.S) (s : Oct.S) (hk : l[k]? = some s) : (turn k l)[k]? = some s := by
  have hkl := (List.getElem?_eq_some_iff.1 hk).1
  simp only [turn]
  rw [List.getElem?_append_right (by simp; omega)]
  simp [Nat.min_eq_left (Nat.le_of_lt hkl), hk]
theorem turn_succ (k : Nat) (l : List Oct.S) (s : Oct.S) (hk : l[k]? = some s) : (turn k l).set k (up1 s) = turn (k + 1) l := by
  obtain ⟨hkl, e⟩ := List.getElem?_eq_some_iff.1 hk
  unfold turn
  rw [List.set_append_right _ _ (by simp; omega), List.take_succ_eq_append_getElem hkl, List.map_append, List.append_assoc]
  congr 1
  have hd : l.drop k = l[k] :: l.drop (k + 1) := List.drop_eq_getElem_cons hkl
  rw [hd]
  simp [Nat.min_eq_left (Nat.le_of_lt hkl), e]
/-- numbers that came in -/
def RawAt (w : World) (a : Option Addr) (l : List Int) : Prop := l = [] ∨ ∃ b off, a = some ⟨b, off, none⟩ ∧ ∀ (j : Nat) (x : Int), l[j]? = some x → w.cell? ⟨b, off + j, none⟩ = some (.int .i64 x)
theorem cell_lt {w : World} {a : Addr} {v : Value} (h : w.cell? a = some v) : a.block < w.heap.size := by
  rcases Nat.lt_or_ge a.block w.heap.size with h1 | h1
  · exact h1
  · simp [World.cell?, h1] at h
theorem RawAt.cell {w w' : World} {a : Option Addr} {l : List Int} (h : RawAt w a l) (hb : Below w.heap.size w w') {j : Nat} {x : Int} (hj : l[j]? = some x) : ∃ b off, a = some ⟨b, off, none⟩ ∧ w'.cell? ⟨b, off + j, none⟩ = some (.int .i64 x) ∧ b < w.heap.size := by
  rcases h with rfl | ⟨b, off, rfl, hc⟩
  · simp at hj
  · have h1 := hc j x hj
    exact ⟨b, off, rfl, (hb.cell (p := ⟨b, off + j, none⟩) (cell_lt h1)).trans h1, cell_lt h1⟩
/-- the classes with the first numbers written over -/
def mix (f : Nat → Int) (l : List Int) (k : Nat) (j : Nat) : Int := if j < k then l.getD j (f j) else f j
theorem mix_zero (f : Nat → Int) (l : List Int) : mix f l 0 = f := by funext j; unfold mix; rw [if_neg (by omega)]
theorem mix_succ {f : Nat → Int} {l : List Int} {k : Nat} {x : Int} (h : l[k]? = some x) : (fun j => if j = k then x else mix f l k j) = mix f l (k + 1) := by
  funext j
  unfold mix
  by_cases e : j = k
  · subst e
    rw [if_pos rfl, if_pos (by omega)]
    simp [List.getD, h]
  · rw [if_neg e]
    by_cases h1 : j < k
    · rw [if_pos h1, if_pos (by omega)]
    · rw [if_neg h1, if_neg (by omega)]
/-- THE STATE behind both answers: the list of the law's own in block g, three arrays in theirs. -/
structure Pc (w u : World) (B g c m A7 A10 A12 : Nat) (L : List Oct.S) (f7 f10 f12 : Nat → Int) : Prop where
  row : OwnsS u B (.slice (some ⟨g, 0, none⟩) (m + 1) c) L
  x7 : AB u A7 f7
  x10 : AB u A10 f10
  x12 : AB u A12 f12
  low : Below w.heap.size w u
theorem Pc.later {w u u' : World} {B g c m A7 A10 A12 : Nat} {L : List Oct.S} {f7 f10 f12 : Nat → Int} (h : Pc w u B g c m A7 A10 A12 L f7 f10 f12) (hb : Below u.heap.size u u') : Pc w u' B g c m A7 A10 A12 L f7 f10 f12 :=
  ⟨h.row.later hb, h.x7.later hb, h.x10.later hb, h.x12.later hb, below_trans h.low hb h.low.size⟩
theorem OwnsS.same {w w' : World} {B g n c : Nat} {l : List Oct.S} (h : OwnsS w B (.slice (some ⟨g, 0, none⟩) n c) l) (e : w'.heap[g]? = w.heap[g]?) : OwnsS w' B (.slice (some ⟨g, 0, none⟩) n c) l := by
  refine ⟨⟨h.1.1, ?_⟩, h.2⟩
  rcases h.1.2 with h2 | ⟨g', cap, cur, hv, hBg, hg, rest⟩
  · exact Or.inl h2
  · cases hv
    exact Or.inr ⟨g, c, cur, rfl, hBg, e.trans hg, rest⟩
theorem Pc.put1 {w u : World} {B g c m A7 A10 A12 k : Nat} {L : List Oct.S} {s : Oct.S} {f7 f10 f12 : Nat → Int} (h : Pc w u B g c m A7 A10 A12 L f7 f10 f12) (hL : m + 1 = L.length) (hk : L[k]? = some s) (hd : g ≠ A7 ∧ g ≠ A10 ∧ g ≠ A12 ∧ w.heap.size ≤ g) :
    Pc w (u.setCell ⟨g, k * 4 + 1, none⟩ (.int .u64 (bits .xor .u64 (Oct.word s 1 : Nat) 65535))) B g c m A7 A10 A12 (L.set k (up1 s)) f7 f10 f12 := by
  refine ⟨?_, h.x7.same (Below.heap_setCell u ⟨g, k * 4 + 1, none⟩ _ A7 (fun e => hd.1 e.symm)), h.x10.same (Below.heap_setCell u ⟨g, k * 4 + 1, none⟩ _ A10 (fun e => hd.2.1 e.symm)), h.x12.same (Below.heap_setCell u ⟨g, k * 4 + 1, none⟩ _ A12 (fun e => hd.2.2.1 e.symm)), h.low.setCell hd.2.2.2 _⟩
  refine h.row.put hL k 1 s (up1 s) hk (by decide) _ (by rw [xor_1]; rfl) (fun i h4 hne => ?_)
  have h3 : i = 0 ∨ i = 2 ∨ i = 3 := by omega
  rcases h3 with rfl | rfl | rfl
  · simp [cells4, up1_0]
  · simp [cells4, up1_2]
  · simp [cells4, up1_3]
theorem Pc.row10 {w u : World} {B g c m A7 A10 A12 : Nat} {L : List Oct.S} {f7 f10 f12 : Nat → Int} (h : Pc w u B g c m A7 A10 A12 L f7 f10 f12) (hd : g ≠ A10 ∧ A7 ≠ A10 ∧ A12 ≠ A10 ∧ w.heap.size ≤ A10) (f : Nat → Int) : Pc w (u.setRow A10 (cv f)) B g c m A7 A10 A12 L f7 f f12 :=
  ⟨h.row.same (heap_row _ _ _ _ hd.1), h.x7.same (heap_row _ _ _ _ hd.2.1), h.x10.put f, h.x12.same (heap_row _ _ _ _ hd.2.2.1), below_row h.low hd.2.2.2 _⟩
theorem Pc.row12 {w u : World} {B g c m A7 A10 A12 : Nat} {L : List Oct.S} {f7 f10 f12 : Nat → Int} (h : Pc w u B g c m A7 A10 A12 L f7 f10 f12) (hd : g ≠ A12 ∧ A7 ≠ A12 ∧ A10 ≠ A12 ∧ w.heap.size ≤ A12) (f : Nat → Int) : Pc w (u.setRow A12 (cv f)) B g c m A7 A10 A12 L f7 f10 f :=
  ⟨h.row.same (heap_row _ _ _ _ hd.1), h.x7.same (heap_row _ _ _ _ hd.2.1), h.x10.same (heap_row _ _ _ _ hd.2.2.1), h.x12.put f, below_row h.low hd.2.2.2 _⟩
end Go.Proofs.Ytemmicnhnaafmaa
