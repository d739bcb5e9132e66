/- The state of OctetsBack's loop over the rows, and what each step of its body leaves of it; the region that appends a row. -/
import Derived.Test.YtkgpmaclaahmbaaBackMath
import Derived.Test.YtkgpmaclaahmbaaInv
import Derived.Test.YtkgpmaclaahmbaaRowset
import Derived.Test.YtkgpmaclaahmbaaRowb
import Derived.Test.YtkgpmaclaahmbaaGoes
namespace Go.Proofs.Ytkgpmaclaahmbaa
open Go Go.RowKit Go.Shelf

theorem keeps_below {W W' : World} (h : Below W.heap.size W W') : KeepsOthers W W' := ⟨h.size, fun k _ hk _ => (h.block k (Array.getElem?_eq_some_iff.1 hk).1).trans hk⟩
theorem OwnsS.move {w w' : World} {B : Nat} {v : Value} {l : List Oct.S} (h : OwnsS w B v l) (hk : ∀ g cur, v.ownBlock = some g → B ≤ g → w.heap[g]? = some (.cells cur 24 (0, 0)) → w'.heap[g]? = w.heap[g]?) : OwnsS w' B v l := by
  refine ⟨⟨h.1.1, ?_⟩, h.2⟩
  rcases h.1.2 with h2 | ⟨g, cap, cur, rfl, hBg, hg, rest⟩
  · exact Or.inl h2
  · exact Or.inr ⟨g, cap, cur, rfl, hBg, by rw [hk g cur rfl hBg hg]; exact hg, rest⟩
theorem OwnsN.move {w w' : World} {B : Nat} {v : Value} {l : List Int} (h : OwnsN w B v l) (hk : ∀ g cur, v.ownBlock = some g → B ≤ g → w.heap[g]? = some (.cells cur 5 (0, 0)) → w'.heap[g]? = w.heap[g]?) : OwnsN w' B v l := by
  refine ⟨⟨h.1.1, ?_⟩, h.2⟩
  rcases h.1.2 with h2 | ⟨g, cap, cur, rfl, hBg, hg, rest⟩
  · exact Or.inl h2
  · exact Or.inr ⟨g, cap, cur, rfl, hBg, by rw [hk g cur rfl hBg hg]; exact hg, rest⟩
theorem OwnsS.isCells {w : World} {B : Nat} {v : Value} {l : List Oct.S} (h : OwnsS w B v l) {g : Nat} (hg : v.ownBlock = some g) : B ≤ g ∧ ∃ cur, w.heap[g]? = some (.cells cur 24 (0, 0)) := by
  rcases h.1.2 with ⟨rfl, _⟩ | ⟨g', cap, cur, rfl, hBg, hg', _⟩
  · simp [Value.ownBlock] at hg
  · simp [Value.ownBlock] at hg
    subst hg
    exact ⟨hBg, cur, hg'⟩
theorem OwnsN.isCells {w : World} {B : Nat} {v : Value} {l : List Int} (h : OwnsN w B v l) {g : Nat} (hg : v.ownBlock = some g) : B ≤ g ∧ ∃ cur, w.heap[g]? = some (.cells cur 5 (0, 0)) := by
  rcases h.1.2 with ⟨rfl, _⟩ | ⟨g', cap, cur, rfl, hBg, hg', _⟩
  · simp [Value.ownBlock] at hg
  · simp [Value.ownBlock] at hg
    subst hg
    exact ⟨hBg, cur, hg'⟩

/-- THE STATE: the set's box and the captured set, the result's box, the rows' box V and row R, the bytes' box U and row T, the last byte, the number. -/
structure Bk (w : World) (s : Oct.S) (X : Nat) (W : World) (V R : Value) (xs : List Oct.S) (U T : Value) (zs : List Int) (last n : Int) : Prop where
  set : SB W w.heap.size s
  cap : SB W (X + 1 + 1 + 1 + 1) s
  res : Boxed W (w.heap.size + 1) 4 (.bool false)
  rows : Boxed W X 26 V
  row : OwnsS W (X + 5) R xs
  bytes : Boxed W (X + 1) 27 U
  byte : OwnsN W (X + 5) T zs
  lst : Boxed W (X + 1 + 1) 3 (.int .i64 last)
  num : Boxed W (X + 1 + 1 + 1) 3 (.int .i64 n)
  bel : Below w.heap.size w W
  ord : w.heap.size + 1 < X

section
variable {w : World} {s : Oct.S} {X : Nat} {W W' : World} {V R : Value} {xs : List Oct.S} {U T : Value} {zs : List Int} {last n : Int}
/-- where all blocks but one stand -/
theorem Bk.kept (h : Bk w s X W V R xs U T zs last n) (row : Option Nat) (hg : W.grownBy W' row) (hr : ∀ r, row = some r → X + 5 ≤ r)
    (h1 : ∀ g, R.ownBlock = some g → some g ≠ row) (h2 : ∀ g, T.ownBlock = some g → some g ≠ row) : Bk w s X W' V R xs U T zs last n := by
  have hlow : ∀ k, k < X + 5 → k < W.heap.size → W'.heap[k]? = W.heap[k]? := fun k hk hk2 => hg.block k hk2 (fun e => by have := hr k e.symm; omega)
  have ho := h.ord
  refine ⟨(hlow _ (by omega) h.set.lt).trans h.set, (hlow _ (by omega) h.cap.lt).trans h.cap, (hlow _ (by omega) h.res.lt).trans h.res, (hlow _ (by omega) h.rows.lt).trans h.rows, h.row.move (fun g cur hb _ hc => hg.block g (Array.getElem?_eq_some_iff.1 hc).1 (h1 g hb)), (hlow _ (by omega) h.bytes.lt).trans h.bytes, h.byte.move (fun g cur hb _ hc => hg.block g (Array.getElem?_eq_some_iff.1 hc).1 (h2 g hb)), (hlow _ (by omega) h.lst.lt).trans h.lst, (hlow _ (by omega) h.num.lt).trans h.num, h.bel.grown hg h.bel.size (fun k e => by have := hr k e; omega), ho⟩
theorem Bk.later (h : Bk w s X W V R xs U T zs last n) (hb : Below W.heap.size W W') : Bk w s X W' V R xs U T zs last n :=
  h.kept none ⟨hb.os, hb.tape, hb.output, hb.size, fun k hk _ => hb.block k hk⟩ (fun r e => by cases e) (fun g _ => by simp) (fun g _ => by simp)
/-- another row of sets -/
theorem Bk.growRows (h : Bk w s X W V R xs U T zs last n) {R' : Value} {xs' : List Oct.S} (hg : W.grownBy W' R.ownBlock) (ho : OwnsS W' (X + 5) R' xs') : Bk w s X W' V R' xs' U T zs last n := by
  have hr : ∀ r, R.ownBlock = some r → X + 5 ≤ r := fun r e => (h.row.isCells e).1
  have hlow : ∀ k, k < X + 5 → k < W.heap.size → W'.heap[k]? = W.heap[k]? := fun k hk hk2 => hg.block k hk2 (fun e => by have := hr k e.symm; omega)
  have hoo := h.ord
  refine ⟨(hlow _ (by omega) h.set.lt).trans h.set, (hlow _ (by omega) h.cap.lt).trans h.cap, (hlow _ (by omega) h.res.lt).trans h.res, (hlow _ (by omega) h.rows.lt).trans h.rows, ho, (hlow _ (by omega) h.bytes.lt).trans h.bytes, h.byte.move (fun g cur hb _ hc => hg.block g (Array.getElem?_eq_some_iff.1 hc).1 (fun e => ?_)), (hlow _ (by omega) h.lst.lt).trans h.lst, (hlow _ (by omega) h.num.lt).trans h.num, h.bel.grown hg h.bel.size (fun k e => by have := hr k e; omega), hoo⟩
  obtain ⟨_, cur', hc'⟩ := h.row.isCells e.symm
  rw [hc] at hc'
  simp at hc'
/-- another row of bytes -/
theorem Bk.growBytes (h : Bk w s X W V R xs U T zs last n) {T' : Value} {zs' : List Int} (hg : W.grownBy W' T.ownBlock) (ho : OwnsN W' (X + 5) T' zs') : Bk w s X W' V R xs U T' zs' last n := by
  have hr : ∀ r, T.ownBlock = some r → X + 5 ≤ r := fun r e => (h.byte.isCells e).1
  have hlow : ∀ k, k < X + 5 → k < W.heap.size → W'.heap[k]? = W.heap[k]? := fun k hk hk2 => hg.block k hk2 (fun e => by have := hr k e.symm; omega)
  have hoo := h.ord
  refine ⟨(hlow _ (by omega) h.set.lt).trans h.set, (hlow _ (by omega) h.cap.lt).trans h.cap, (hlow _ (by omega) h.res.lt).trans h.res, (hlow _ (by omega) h.rows.lt).trans h.rows, h.row.move (fun g cur hb _ hc => hg.block g (Array.getElem?_eq_some_iff.1 hc).1 (fun e => ?_)), (hlow _ (by omega) h.bytes.lt).trans h.bytes, ho, (hlow _ (by omega) h.lst.lt).trans h.lst, (hlow _ (by omega) h.num.lt).trans h.num, h.bel.grown hg h.bel.size (fun k e => by have := hr k e; omega), hoo⟩
  obtain ⟨_, cur', hc'⟩ := h.byte.isCells e.symm
  rw [hc] at hc'
  simp at hc'
theorem heap_other (W : World) (B k : Nat) (v : Value) (h : k ≠ B) : (W.setCell ⟨B, 0, none⟩ v).heap[k]? = W.heap[k]? := Below.heap_setCell W ⟨B, 0, none⟩ v k h
theorem Bk.setRows (h : Bk w s X W V R xs U T zs last n) (V' : Value) : Bk w s X (W.setCell ⟨X, 0, none⟩ V') V' R xs U T zs last n := by
  have ho := h.ord
  exact ⟨h.set.other (by omega) _ _, h.cap.other (by omega) _ _, h.res.other (by omega) _, h.rows.set _, h.row.move (fun g _ _ hb _ => heap_other _ _ _ _ (by omega)), h.bytes.other (by omega) _, h.byte.move (fun g _ _ hb _ => heap_other _ _ _ _ (by omega)), h.lst.other (by omega) _, h.num.other (by omega) _, h.bel.setCell (p := ⟨X, 0, none⟩) (by simp; omega) _, ho⟩
theorem Bk.setBytes (h : Bk w s X W V R xs U T zs last n) (U' : Value) : Bk w s X (W.setCell ⟨X + 1, 0, none⟩ U') V R xs U' T zs last n := by
  have ho := h.ord
  exact ⟨h.set.other (by omega) _ _, h.cap.other (by omega) _ _, h.res.other (by omega) _, h.rows.other (by omega) _, h.row.move (fun g _ _ hb _ => heap_other _ _ _ _ (by omega)), h.bytes.set _, h.byte.move (fun g _ _ hb _ => heap_other _ _ _ _ (by omega)), h.lst.other (by omega) _, h.num.other (by omega) _, h.bel.setCell (p := ⟨X + 1, 0, none⟩) (by simp; omega) _, ho⟩
theorem Bk.setLast (h : Bk w s X W V R xs U T zs last n) (l : Int) : Bk w s X (W.setCell ⟨X + 1 + 1, 0, none⟩ (.int .i64 l)) V R xs U T zs l n := by
  have ho := h.ord
  exact ⟨h.set.other (by omega) _ _, h.cap.other (by omega) _ _, h.res.other (by omega) _, h.rows.other (by omega) _, h.row.move (fun g _ _ hb _ => heap_other _ _ _ _ (by omega)), h.bytes.other (by omega) _, h.byte.move (fun g _ _ hb _ => heap_other _ _ _ _ (by omega)), h.lst.set _, h.num.other (by omega) _, h.bel.setCell (p := ⟨X + 1 + 1, 0, none⟩) (by simp; omega) _, ho⟩
theorem Bk.setNum (h : Bk w s X W V R xs U T zs last n) (l : Int) : Bk w s X (W.setCell ⟨X + 1 + 1 + 1, 0, none⟩ (.int .i64 l)) V R xs U T zs last l := by
  have ho := h.ord
  exact ⟨h.set.other (by omega) _ _, h.cap.other (by omega) _ _, h.res.other (by omega) _, h.rows.other (by omega) _, h.row.move (fun g _ _ hb _ => heap_other _ _ _ _ (by omega)), h.bytes.other (by omega) _, h.byte.move (fun g _ _ hb _ => heap_other _ _ _ _ (by omega)), h.lst.other (by omega) _, h.num.set _, h.bel.setCell (p := ⟨X + 1 + 1 + 1, 0, none⟩) (by simp; omega) _, ho⟩
theorem keeps_grown {row : Option Nat} (hg : W.grownBy W' row) (hr : ∀ r, row = some r → ∃ cur t, W.heap[r]? = some (.cells cur t (0, 0))) : KeepsOthers W W' := by
  refine ⟨hg.size, fun k o hk ho => (hg.block k (Array.getElem?_eq_some_iff.1 hk).1 (fun e => ?_)).trans hk⟩
  obtain ⟨cur, t, hc⟩ := hr k e.symm
  rw [hk] at hc
  cases hc
  simp [Obj.isCells] at ho
end
end Go.Proofs.Ytkgpmaclaahmbaa
