/- The contracts of octets in the form that a region of many calls wants: arguments and answers written out, the lists of Join by their blocks. -/
import Derived.Test.YtkgpmaclaahmbaaKnown
namespace Go.Proofs.Ytkgpmaclaahmbaa
open Go.RowKit

/-- a set's words as cells -/
def cells4 (s : Oct.S) : List Value := [.int .u64 (Oct.word s 0 : Nat), .int .u64 (Oct.word s 1 : Nat), .int .u64 (Oct.word s 2 : Nat), .int .u64 (Oct.word s 3 : Nat)]
def flat (l : List Oct.S) : List Value := l.flatMap cells4
theorem flat_length (l : List Oct.S) : (flat l).length = 4 * l.length := by
  induction l with
  | nil => rfl
  | cons s r ih => simp only [flat, List.flatMap_cons, List.length_append, List.length_cons] at ih ⊢; rw [ih]; simp [cells4]; omega
theorem flat_at (l : List Oct.S) (k j : Nat) (s : Oct.S) (hk : l[k]? = some s) (hj : j < 4) : (flat l)[k * 4 + j]? = (cells4 s)[j]? := by
  induction l generalizing k with
  | nil => simp at hk
  | cons x r ih =>
    simp only [flat, List.flatMap_cons] at ih ⊢
    cases k with
    | zero =>
      simp at hk
      subst hk
      rw [List.getElem?_append_left (by simp [cells4]; omega)]
      simp
    | succ k =>
      simp at hk
      rw [List.getElem?_append_right (by simp [cells4]; omega), ← ih k hk]
      congr 1
      simp [cells4]
      omega
/-- A LIST OF SETS IN A BLOCK OF ITS OWN. -/
structure SL (w : World) (g : Nat) (l : List Oct.S) : Prop where
  block : w.heap[g]? = some (.cells (flat l).toArray 24 (0, 0))
theorem SL.at {w : World} {g : Nat} {l : List Oct.S} (h : SL w g l) : SetsAt w (some ⟨g, 0, none⟩) l := by
  refine Or.inr ⟨g, 0, rfl, fun k s hk => ?_⟩
  have h := h.block
  have h0 := flat_at l k 0 s hk (by decide)
  have h1 := flat_at l k 1 s hk (by decide)
  have h2 := flat_at l k 2 s hk (by decide)
  have h3 := flat_at l k 3 s hk (by decide)
  simp only [Nat.add_zero] at h0
  refine ⟨?_, ?_, ?_, ?_⟩ <;> simp [World.cell?, h, h0, h1, h2, h3, cells4]
theorem SL.later {w w' : World} {g : Nat} {l : List Oct.S} (h : SL w g l) (hb : Below w.heap.size w w') : SL w' g l := ⟨(hb.block g (Array.getElem?_eq_some_iff.1 h.block).1).trans h.block⟩
theorem SL.alloc {w : World} {g : Nat} {l : List Oct.S} (h : SL w g l) (o : Obj) : SL (w.alloc o) g l := h.later ((Below.refl _ _).alloc (Nat.le_refl _) _)
theorem sl2_new (w : World) (s t : Oct.S) (g : Nat) (hg : g = w.heap.size) : SL (w.alloc (.cells #[.int .u64 (Oct.word s 0 : Nat), .int .u64 (Oct.word s 1 : Nat), .int .u64 (Oct.word s 2 : Nat), .int .u64 (Oct.word s 3 : Nat), .int .u64 (Oct.word t 0 : Nat), .int .u64 (Oct.word t 1 : Nat), .int .u64 (Oct.word t 2 : Nat), .int .u64 (Oct.word t 3 : Nat)] 24)) g [s, t] := by
  subst hg
  exact ⟨heap_alloc_new w _⟩
theorem sl3_new (w : World) (s t r : Oct.S) (g : Nat) (hg : g = w.heap.size) : SL (w.alloc (.cells #[.int .u64 (Oct.word s 0 : Nat), .int .u64 (Oct.word s 1 : Nat), .int .u64 (Oct.word s 2 : Nat), .int .u64 (Oct.word s 3 : Nat), .int .u64 (Oct.word t 0 : Nat), .int .u64 (Oct.word t 1 : Nat), .int .u64 (Oct.word t 2 : Nat), .int .u64 (Oct.word t 3 : Nat), .int .u64 (Oct.word r 0 : Nat), .int .u64 (Oct.word r 1 : Nat), .int .u64 (Oct.word r 2 : Nat), .int .u64 (Oct.word r 3 : Nat)] 24)) g [s, t, r] := by
  subst hg
  exact ⟨heap_alloc_new w _⟩
theorem sl2_next (w : World) (o : Obj) (s t : Oct.S) : SL ((w.alloc o).alloc (.cells #[.int .u64 (Oct.word s 0 : Nat), .int .u64 (Oct.word s 1 : Nat), .int .u64 (Oct.word s 2 : Nat), .int .u64 (Oct.word s 3 : Nat), .int .u64 (Oct.word t 0 : Nat), .int .u64 (Oct.word t 1 : Nat), .int .u64 (Oct.word t 2 : Nat), .int .u64 (Oct.word t 3 : Nat)] 24)) (w.heap.size + 1) [s, t] := sl2_new (w.alloc o) s t _ (by simp)
theorem sl3_next (w : World) (o : Obj) (s t r : Oct.S) : SL ((w.alloc o).alloc (.cells #[.int .u64 (Oct.word s 0 : Nat), .int .u64 (Oct.word s 1 : Nat), .int .u64 (Oct.word s 2 : Nat), .int .u64 (Oct.word s 3 : Nat), .int .u64 (Oct.word t 0 : Nat), .int .u64 (Oct.word t 1 : Nat), .int .u64 (Oct.word t 2 : Nat), .int .u64 (Oct.word t 3 : Nat), .int .u64 (Oct.word r 0 : Nat), .int .u64 (Oct.word r 1 : Nat), .int .u64 (Oct.word r 2 : Nat), .int .u64 (Oct.word r 3 : Nat)] 24)) (w.heap.size + 1) [s, t, r] := sl3_new (w.alloc o) s t r _ (by simp)
/-- an answer written out -/
def Gives (w : World) (s : Oct.S) : Ending → World → Prop := fun e w' => e = .returned (.agg #[.int .u64 (Oct.word s 0 : Nat), .int .u64 (Oct.word s 1 : Nat), .int .u64 (Oct.word s 2 : Nat), .int .u64 (Oct.word s 3 : Nat)]) ∧ Below w.heap.size w w'
theorem join0_gen (w : World) : Calls Try.prog 12 #[.slice none 0 0] w fun e w' => e = .returned (.agg #[.int .u64 (Oct.word Oct.none 0 : Nat), .int .u64 (Oct.word Oct.none 1 : Nat), .int .u64 (Oct.word Oct.none 2 : Nat), .int .u64 (Oct.word Oct.none 3 : Nat)]) ∧ Below w.heap.size w w' :=
  join_any none 0 0 [] w rfl (by simp [maxLen]) (Or.inl rfl)
theorem join2_gen {w : World} {g : Nat} {s t : Oct.S} (h : SL w g [s, t]) : Calls Try.prog 12 #[.slice (some ⟨g, 0, none⟩) 2 2] w fun e w' => e = .returned (.agg #[.int .u64 (Oct.word (Oct.join s t) 0 : Nat), .int .u64 (Oct.word (Oct.join s t) 1 : Nat), .int .u64 (Oct.word (Oct.join s t) 2 : Nat), .int .u64 (Oct.word (Oct.join s t) 3 : Nat)]) ∧ Below w.heap.size w w' := by
  refine (join_any _ 2 2 [s, t] w rfl (by simp [maxLen]) h.at).mono ?_
  rintro e w' ⟨rfl, hb⟩
  exact ⟨by rw [setV_congr (s := Oct.joins [s, t]) (t := Oct.join s t) (fun b _ => by simp [Oct.joins, Oct.join])]; rfl, hb⟩
theorem join3_gen {w : World} {g : Nat} {s t r : Oct.S} (h : SL w g [s, t, r]) : Calls Try.prog 12 #[.slice (some ⟨g, 0, none⟩) 3 3] w fun e w' => e = .returned (.agg #[.int .u64 (Oct.word (Oct.join s (Oct.join t r)) 0 : Nat), .int .u64 (Oct.word (Oct.join s (Oct.join t r)) 1 : Nat), .int .u64 (Oct.word (Oct.join s (Oct.join t r)) 2 : Nat), .int .u64 (Oct.word (Oct.join s (Oct.join t r)) 3 : Nat)]) ∧ Below w.heap.size w w' := by
  refine (join_any _ 3 3 [s, t, r] w rfl (by simp [maxLen]) h.at).mono ?_
  rintro e w' ⟨rfl, hb⟩
  exact ⟨by rw [setV_congr (s := Oct.joins [s, t, r]) (t := Oct.join s (Oct.join t r)) (fun b _ => by simp [Oct.joins, Oct.join])]; rfl, hb⟩
theorem meet_gen (s t : Oct.S) (w : World) : Calls Try.prog 19 #[.agg #[.int .u64 (Oct.word s 0 : Nat), .int .u64 (Oct.word s 1 : Nat), .int .u64 (Oct.word s 2 : Nat), .int .u64 (Oct.word s 3 : Nat)], .agg #[.int .u64 (Oct.word t 0 : Nat), .int .u64 (Oct.word t 1 : Nat), .int .u64 (Oct.word t 2 : Nat), .int .u64 (Oct.word t 3 : Nat)]] w fun e w' => e = .returned (.agg #[.int .u64 (Oct.word (Oct.meet s t) 0 : Nat), .int .u64 (Oct.word (Oct.meet s t) 1 : Nat), .int .u64 (Oct.word (Oct.meet s t) 2 : Nat), .int .u64 (Oct.word (Oct.meet s t) 3 : Nat)]) ∧ Below w.heap.size w w' := meet_any s t w
theorem not_gen (s : Oct.S) (w : World) : Calls Try.prog 20 #[.agg #[.int .u64 (Oct.word s 0 : Nat), .int .u64 (Oct.word s 1 : Nat), .int .u64 (Oct.word s 2 : Nat), .int .u64 (Oct.word s 3 : Nat)]] w fun e w' => e = .returned (.agg #[.int .u64 (Oct.word (Oct.inv s) 0 : Nat), .int .u64 (Oct.word (Oct.inv s) 1 : Nat), .int .u64 (Oct.word (Oct.inv s) 2 : Nat), .int .u64 (Oct.word (Oct.inv s) 3 : Nat)]) ∧ Below w.heap.size w w' := not_any s w
theorem has_gen (s : Oct.S) (b : Nat) (w : World) (hb : b < 256) : Calls Try.prog 11 #[.agg #[.int .u64 (Oct.word s 0 : Nat), .int .u64 (Oct.word s 1 : Nat), .int .u64 (Oct.word s 2 : Nat), .int .u64 (Oct.word s 3 : Nat)], .int .u8 b] w fun e w' => e = .returned (.bool (s b)) ∧ Below w.heap.size w w' := has_any s b w hb
def cnt (s : Oct.S) : Nat := Oct.count s 256
theorem cnt_le (s : Oct.S) : cnt s ≤ 256 := Oct.count_le s 256
theorem count_gen (s : Oct.S) (w : World) : Calls Try.prog 14 #[.agg #[.int .u64 (Oct.word s 0 : Nat), .int .u64 (Oct.word s 1 : Nat), .int .u64 (Oct.word s 2 : Nat), .int .u64 (Oct.word s 3 : Nat)]] w fun e w' => e = .returned (.int .i64 (cnt s : Nat)) ∧ Below w.heap.size w w' := count_any s w
/-- a set's block in all later worlds -/
theorem SB.held {w : World} {A : Nat} {s : Oct.S} (h : SB w A s) : ∀ u, Below w.heap.size w u → u.cell? ⟨A, 0, none⟩ = some (.int .u64 (Oct.word s 0 : Nat)) ∧ u.cell? ⟨A, 1, none⟩ = some (.int .u64 (Oct.word s 1 : Nat)) ∧ u.cell? ⟨A, 2, none⟩ = some (.int .u64 (Oct.word s 2 : Nat)) ∧ u.cell? ⟨A, 3, none⟩ = some (.int .u64 (Oct.word s 3 : Nat)) :=
  fun _ hu => (h.later hu).cells
end Go.Proofs.Ytkgpmaclaahmbaa
