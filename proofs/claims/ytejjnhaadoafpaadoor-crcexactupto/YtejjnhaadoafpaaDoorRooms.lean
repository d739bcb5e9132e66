/- A list of slices that the call itself makes (each a room of bytes), grown by append: what stays. -/
import Derived.Test.YtejjnhaadoafpaaDoorKept
namespace Go.Proofs.YtejjnhaadoafpaaDoor
open Go.RowKit

theorem info24 : (Tryd.prog.info? 24).map (fun i => (i.zero, i.size, i.bytes)) = some (some (.slice none 0 0), 1, 24) := by kernel_rfl

/-- WHAT AN append OF ONE SLICE LEAVES. -/
theorem wpList_append_slice {w0 w : World} {ops : Array Oper} {rest : List Oper} {o : Oper} {a : Act} {Q : Exit → Act → World → Prop} (hgd : o.guard = none) (s x : Operand)
    (ho : o.op = .call { callee := .builtin .append, args := #[s, x], argTypes := #[22, 22] })
    (v : Value) (n : Nat) (xs : List Value) (hs : a.eval s = v) (hown : w.ownsRow w0.heap.size 24 1 v n xs) (hbel : Below w0.heap.size w0 w) (val : Value) (hone : val.oneCell' = true) (hx : a.eval x = .slice (some ⟨w.heap.size, 0, none⟩) 1 1)
    (hl : n + 1 ≤ 2097152)
    (h : ∀ g c w', w'.ownsRow w0.heap.size 24 1 (.slice (some ⟨g, 0, none⟩) (n + 1) c) (n + 1) (xs ++ [val]) → Below w0.heap.size w0 w' → (∀ (b : Nat) (cur : Array Value) (fr : Nat × Nat), w.heap[b]? = some (.cells cur 5 fr) → w'.heap[b]? = some (.cells cur 5 fr)) → n + 1 ≤ c → c ≤ maxLen →
      wpList Tryd.prog ops Q rest (a.put o.dst (.slice (some ⟨g, 0, none⟩) (n + 1) c)) w') : wpList Tryd.prog ops Q (o :: rest) a (w.alloc (.cells #[val] 24)) := by
  obtain ⟨i0, hi, hz0, hz1, hz2⟩ := info_parts info24
  have hal : Below w.heap.size w (w.alloc (.cells #[val] 24)) := (Below.refl _ _).alloc (Nat.le_refl _) _
  have hbel1 : Below w0.heap.size w0 (w.alloc (.cells #[val] 24)) := hbel.alloc hbel.size _
  have hown1 : (w.alloc (.cells #[val] 24)).ownsRow w0.heap.size 24 1 v n xs := hown.alloc _
  refine wpList_append_own_wide (P := Tryd.prog) _ hgd s x 22 ho w0.heap.size 24 i0 (.slice none 0 0) 1 24 Tryd.underlying22 hi hz0 hz1 hz2 rfl (by decide) v n xs hs hown1 ⟨w.heap.size, 0, none⟩ 1 1 [val] hx rfl (cell_one_new _ _ _)
    (fun u hu => by simp at hu; subst hu; exact hone) (by unfold maxLen; omega) (by omega) hbel1.size ?_
  intro v' w' ho' hg' hnil
  rcases ho'.2 with ⟨_, h0⟩ | ⟨g, cap, cur, rfl, hB, hg, hc, hm, _, _⟩
  · omega
  · refine h g cap w' ho' (hbel1.grown hg' hbel1.size (fun k hk => (hown1.lt k hk).1)) (fun b cur' fr hb => ?_) hc hm
    have hlt : b < w.heap.size := (Array.getElem?_eq_some_iff.1 hb).1
    have hb1 : (w.alloc (.cells #[val] 24)).heap[b]? = some (.cells cur' 5 fr) := by rw [hal.block b hlt]; exact hb
    rw [hg'.block b (Array.getElem?_eq_some_iff.1 hb1).1 (fun e => ?_)]
    · exact hb1
    · rcases hown1.2 with ⟨rfl, _⟩ | ⟨g1, c1, cur1, rfl, _, hg1, _⟩
      · simp [Value.ownBlock] at e
      · simp only [Value.ownBlock, Option.some.injEq] at e
        subst e
        rw [hb1] at hg1
        simp at hg1

/-- A room, as a piece. -/
def RoomP (w : World) (p : Piece) : Prop := ∃ B g, p.a = some ⟨g, 0, none⟩ ∧ Room w B g p.cap p.zs ∧ p.zs.length + 2 ≤ p.cap ∧ p.cap ≤ maxLen
/-- blocks of bytes stay -/
def Bytes5 (w w' : World) : Prop := ∀ (b : Nat) (cur : Array Value) (fr : Nat × Nat), w.heap[b]? = some (.cells cur 5 fr) → w'.heap[b]? = some (.cells cur 5 fr)
theorem bytes5_below {w w' : World} (h : Below w.heap.size w w') : Bytes5 w w' := fun b cur fr hb => by
  rw [h.block b (Array.getElem?_eq_some_iff.1 hb).1]; exact hb
theorem Bytes5.trans {a b c : World} (h : Bytes5 a b) (k : Bytes5 b c) : Bytes5 a c := fun x cur fr hx => k x cur fr (h x cur fr hx)
theorem RoomP.later {w w' : World} {p : Piece} (h : RoomP w p) (hb : Bytes5 w w') : RoomP w' p := by
  obtain ⟨B, g, e, hr, r⟩ := h
  refine ⟨B, g, e, ?_, r⟩
  obtain ⟨h1, hn⟩ := hr
  refine ⟨⟨h1.1, ?_⟩, hn⟩
  rcases h1.2 with h2 | ⟨g', cap, cur, hv, hB, hg, rest⟩
  · exact Or.inl h2
  · exact Or.inr ⟨g', cap, cur, hv, hB, hb _ _ _ hg, rest⟩
theorem RoomP.ok {w : World} {p : Piece} (h : RoomP w p) (hb : Crc.Bs p.zs) (hl : p.zs.length ≤ maxLen) : p.Ok w := by
  obtain ⟨B, g, e, hr, r⟩ := h
  exact ⟨hl, by rw [e]; exact hr.bytes.1, hb⟩
/-- cells of the list -/
theorem ownsRow_pieces {w : World} {B g n c : Nat} {rooms : List Piece} {more : List Value} (h : w.ownsRow B 24 1 (.slice (some ⟨g, 0, none⟩) n c) n (rooms.map Piece.val ++ more)) : PiecesAt w (some ⟨g, 0, none⟩) rooms := by
  refine Or.inr ⟨g, 0, rfl, fun k hk => ?_⟩
  have hlen := h.1
  simp only [List.length_append, List.length_map, Nat.mul_one] at hlen
  have := h.cellAt k (by omega)
  rw [Nat.zero_add, this]
  simp [hk, List.getElem?_append_left]
theorem cat_of_zs {ps rs : List Piece} (h : rs.map (·.zs) = ps.map (·.zs)) : cat rs = cat ps := by
  unfold cat
  rw [List.flatMap_def, List.flatMap_def, h]
/-- the same, the new block's number as the walk writes it -/
theorem wpList_append_sliceM {w0 w : World} {ops : Array Oper} {rest : List Oper} {o : Oper} {a : Act} {Q : Exit → Act → World → Prop} (m : Nat) (hm : m = w.heap.size) (hgd : o.guard = none) (s x : Operand)
    (ho : o.op = .call { callee := .builtin .append, args := #[s, x], argTypes := #[22, 22] })
    (v : Value) (n : Nat) (xs : List Value) (hs : a.eval s = v) (hown : w.ownsRow w0.heap.size 24 1 v n xs) (hbel : Below w0.heap.size w0 w) (val : Value) (hone : val.oneCell' = true) (hx : a.eval x = .slice (some ⟨m, 0, none⟩) 1 1)
    (hl : n + 1 ≤ 2097152)
    (h : ∀ g c w', w'.ownsRow w0.heap.size 24 1 (.slice (some ⟨g, 0, none⟩) (n + 1) c) (n + 1) (xs ++ [val]) → Below w0.heap.size w0 w' → Bytes5 w w' → n + 1 ≤ c → c ≤ maxLen →
      wpList Tryd.prog ops Q rest (a.put o.dst (.slice (some ⟨g, 0, none⟩) (n + 1) c)) w') : wpList Tryd.prog ops Q (o :: rest) a (w.alloc (.cells #[val] 24)) := by
  subst hm
  exact wpList_append_slice hgd s x ho v n xs hs hown hbel val hone hx hl h
theorem bytesAt_block {w : World} {b : Nat} {zs : List Int} {fr : Nat × Nat} (h : w.heap[b]? = some (.cells (zs.map (fun z => Value.int .u8 z)).toArray 5 fr)) : BytesAt w (some ⟨b, 0, none⟩) zs := by
  refine Or.inr ⟨b, 0, rfl, fun k hk => ?_⟩
  simp [World.cell?, h, hk]
theorem heap_new (w : World) (o : Obj) : (w.alloc o).heap[w.heap.size]? = some o := by
  show (w.heap.push o)[w.heap.size]? = _
  simp
theorem zs_mem {rs ps : List Piece} (h : rs.map (·.zs) = ps.map (·.zs)) {r : Piece} (hr : r ∈ rs) : ∃ p ∈ ps, p.zs = r.zs := by
  have : r.zs ∈ ps.map (·.zs) := by rw [← h]; exact List.mem_map_of_mem hr
  obtain ⟨p, hp, e⟩ := List.mem_map.1 this
  exact ⟨p, hp, e⟩
theorem zs_at {rs ps : List Piece} (h : rs.map (·.zs) = ps.map (·.zs)) {k : Nat} (hk : k < rs.length) : (rs.getD k Piece.nil).zs = (ps.getD k Piece.nil).zs := by
  have hl : rs.length = ps.length := by have := congrArg List.length h; simpa using this
  have h1 := congrArg (·[k]?) h
  simp only [List.getElem?_map, List.getElem?_eq_getElem hk, List.getElem?_eq_getElem (show k < ps.length by omega), Option.map_some, Option.some.injEq] at h1
  simp [List.getD, hk, show k < ps.length by omega, h1]
end Go.Proofs.YtejjnhaadoafpaaDoor
