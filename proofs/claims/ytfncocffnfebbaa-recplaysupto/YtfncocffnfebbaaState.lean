/- The state between two calls of heronlaw02.RecPlays, and what of it stays behind each call. -/
import Derived.Test.YtfncocffnfebbaaWhole
namespace Go.Proofs.Ytfncocffnfebbaa
open Go.RowKit
attribute [local go_sem ↓] Go.wp_at_zero Go.wp_at_succ

/-- blocks of these types and numbers stay -/
def Sames (T : TypeId → Nat → Prop) (u u' : World) : Prop := ∀ (b : Nat) (cur : Array Value) (t : TypeId) (fr : Nat × Nat), T t b → u.heap[b]? = some (.cells cur t fr) → u'.heap[b]? = some (.cells cur t fr)
theorem sames_below {T : TypeId → Nat → Prop} {u u' : World} (h : Below u.heap.size u u') : Sames T u u' := fun b cur t fr _ hb => by
  rw [h.block b (Array.getElem?_eq_some_iff.1 hb).1]; exact hb
theorem sames_grown {u u' : World} {q : Nat} {tq : TypeId} {cq : Array Value} {fq : Nat × Nat} (h : u.grownBy u' (some q)) (hq : u.heap[q]? = some (.cells cq tq fq)) : Sames (fun t _ => t ≠ tq) u u' := fun b cur t fr ht hb => by
  rw [h.block b (Array.getElem?_eq_some_iff.1 hb).1 (fun e => ?_)]
  · exact hb
  · simp only [Option.some.injEq] at e
    subst e
    rw [hq] at hb
    simp only [Option.some.injEq, Obj.cells.injEq] at hb
    exact ht hb.2.1.symm
theorem sames_keeps {K : Nat} {u u' : World} (h : Keeps K u u') : Sames (fun t b => b ≠ K ∧ t ≠ 26 ∧ t ≠ 9) u u' := fun b cur t fr ht hb => h b cur t fr ht.1 ht.2.1 ht.2.2 hb
theorem bytes_same {T : TypeId → Nat → Prop} {u u' : World} {b o : Nat} {zs : List Int} {cur : Array Value} {fr : Nat × Nat} (hs : Sames T u u') (hb : u.heap[b]? = some (.cells cur 5 fr)) (hT : T 5 b) (h : BytesAt u (some ⟨b, o, none⟩) zs) : BytesAt u' (some ⟨b, o, none⟩) zs := by
  rcases h with h0 | ⟨b', o', e, hc⟩
  · exact Or.inl h0
  · cases e
    exact Or.inr ⟨b, o, rfl, fun k hk => by rw [World.cell?_of_block (w := u) ((hs b cur 5 fr hT hb).trans hb.symm)]; exact hc k hk⟩

/-- THE STATE. -/
structure Sta (w : World) (P H X K F n c : Nat) (xa : Option Addr) (xc : Nat) (zb : List Int) (u : World) (off : Nat) (ans : List (Ans × List Int)) : Prop where
  rd : Rd u P H off (zb.drop off)
  rx : Rx u X xa xc off zb
  full : ∃ zf : List Int, zf.length = n ∧ Rec.Bs zf ∧ u.ownsRow w.heap.size 5 1 (.slice (some ⟨F, 0, none⟩) (n + 2) c) (n + 2) (cellsOf (zf ++ [77, 78]))
  book : BookAt u K w.heap.size ans
  lies : ∀ A ∈ ans.map (·.1), A.Lies u
  has : ∀ x ∈ ans, x.1.n = x.2.length ∧ BytesAt u x.1.a x.2
  place : ∀ A ∈ ans.map (·.1), A.n ≠ 0 → w.heap.size ≤ A.b ∧ A.b ≠ F ∧ (∀ g, xa = some ⟨g, 0, none⟩ → A.b ≠ g) ∧ (A.b = H → A.o + A.n ≤ off)
  sz : ∀ x ∈ ans, x.1.n ≤ 16777216
  apart : (ans.map (·.1)).Pairwise Ans.Apart
  below : Below w.heap.size w u
  hrow : ∃ cur, u.heap[H]? = some (.cells cur 5 (0, 0)) ∧ zb.length ≤ cur.size
  xrow : ∀ g, xa = some ⟨g, 0, none⟩ → ∃ cur, u.heap[g]? = some (.cells cur 5 (0, 0))
  le : off ≤ zb.length

section
variable {w : World} {P H X K F n c : Nat} {xa : Option Addr} {xc : Nat} {zb : List Int} {u u' : World} {off : Nat} {ans : List (Ans × List Int)} {T : TypeId → Nat → Prop}

theorem rd_same {zs : List Int} (h : Rd u P H off zs) (hs : Sames T u u') (hH : ∃ cur, u.heap[H]? = some (.cells cur 5 (0, 0)) ∧ zb.length ≤ cur.size) (h68 : T 68 P) (h5 : T 5 H) : Rd u' P H off zs := by
  obtain ⟨a, e1, e2, e3, e4⟩ := h
  obtain ⟨cur, hc, _⟩ := hH
  exact ⟨a, hs _ _ _ _ h68 e1, e2, e3, fun k hk => by rw [World.cell?_of_block (w := u) ((hs _ _ _ _ h5 hc).trans hc.symm)]; exact e4 k hk⟩
theorem rx_same (h : Rx u X xa xc off zb) (hs : Sames T u u') (hx : ∀ g, xa = some ⟨g, 0, none⟩ → ∃ cur, u.heap[g]? = some (.cells cur 5 (0, 0))) (h70 : T 70 X) (h5 : ∀ g, xa = some ⟨g, 0, none⟩ → T 5 g) : Rx u' X xa xc off zb := by
  obtain ⟨h1, h2, h3, h4⟩ := h
  refine ⟨hs _ _ _ _ h70 h1, ?_, h3, h4⟩
  by_cases hz : zb = []
  · exact Or.inl hz
  · obtain ⟨g, rfl, _⟩ := h3 hz
    obtain ⟨cur, hc⟩ := hx g rfl
    exact bytes_same hs hc (h5 g rfl) h2
theorem row_same {B : Nat} {t : TypeId} {v : Value} {m : Nat} {xs : List Value} (h : u.ownsRow B t 1 v m xs) (hs : Sames T u u') (hT : ∀ g, v.ownBlock = some g → T t g) : u'.ownsRow B t 1 v m xs := by
  refine ⟨h.1, ?_⟩
  rcases h.2 with h2 | ⟨g, cap, cur, hv, hBg, hg, rest⟩
  · exact Or.inl h2
  · exact Or.inr ⟨g, cap, cur, hv, hBg, hs _ _ _ _ (hT g (by rw [hv]; rfl)) hg, rest⟩
theorem book_same {B : Nat} (h : BookAt u K B ans) (hs : Sames T u u') (h49 : T 49 K) (h26 : ∀ g, T 26 g) (h9 : ∀ g, T 9 g) : BookAt u' K B ans := by
  obtain ⟨ra, rc, sa, sc, h1, h2, h3⟩ := h
  exact ⟨ra, rc, sa, sc, hs _ _ _ _ h49 h1, row_same h2 hs (fun g _ => h26 g), row_same h3 hs (fun g _ => h9 g)⟩
theorem lies_same {A : Ans} (h : A.Lies u) (hs : Sames T u u') (h5 : A.n ≠ 0 → T 5 A.b) : A.Lies u' := by
  rcases h with h0 | ⟨ha, cur, hc, hl⟩
  · exact Or.inl h0
  · by_cases h0 : A.n = 0
    · exact Or.inl h0
    · exact Or.inr ⟨ha, cur, hs _ _ _ _ (h5 h0) hc, hl⟩
theorem has_same {x : Ans × List Int} (hl : x.1.Lies u) (h : x.1.n = x.2.length ∧ BytesAt u x.1.a x.2) (hs : Sames T u u') (h5 : x.1.n ≠ 0 → T 5 x.1.b) : x.1.n = x.2.length ∧ BytesAt u' x.1.a x.2 := by
  refine ⟨h.1, ?_⟩
  by_cases h0 : x.1.n = 0
  · exact Or.inl (List.eq_nil_of_length_eq_zero (by rw [← h.1]; exact h0))
  · rcases hl with e | ⟨ha, cur, hc, _⟩
    · exact absurd e h0
    · have h2 := h.2
      rw [ha] at h2 ⊢
      exact bytes_same hs hc (h5 h0) h2

/-- behind a call that leaves all blocks of bytes and the book: new memory, or the readers' own blocks -/
theorem Sta.next (h : Sta w P H X K F n c xa xc zb u off ans) (hs : Sames T u u') (h5 : ∀ g, T 5 g) (h26 : ∀ g, T 26 g) (h9 : ∀ g, T 9 g) (h49 : ∀ g, T 49 g) (hb : Below w.heap.size w u') (off' : Nat) (hoff : off ≤ off') (hle : off' ≤ zb.length) (hrd : Rd u' P H off' (zb.drop off')) (hrx : Rx u' X xa xc off' zb) : Sta w P H X K F n c xa xc zb u' off' ans := by
  obtain ⟨zf, f1, f2, f3⟩ := h.full
  obtain ⟨cur, hc, hl⟩ := h.hrow
  refine ⟨hrd, hrx, ⟨zf, f1, f2, row_same f3 hs (fun g _ => h5 g)⟩, book_same h.book hs (h49 K) h26 h9, fun A hA => lies_same (h.lies A hA) hs (fun _ => h5 _), fun x hx => has_same (h.lies _ (List.mem_map_of_mem hx)) (h.has x hx) hs (fun _ => h5 _), fun A hA h0 => ?_, h.sz, h.apart, hb, ⟨cur, hs _ _ _ _ (h5 H) hc, hl⟩, fun g e => ?_, hle⟩
  · obtain ⟨p1, p2, p3, p4⟩ := h.place A hA h0
    exact ⟨p1, p2, p3, fun e => Nat.le_trans (p4 e) hoff⟩
  · obtain ⟨cu, hcu⟩ := h.xrow g e
    exact ⟨cu, hs _ _ _ _ (h5 g) hcu⟩
theorem Sta.grow (h : Sta w P H X K F n c xa xc zb u off ans) (hb : Below u.heap.size u u') : Sta w P H X K F n c xa xc zb u' off ans :=
  h.next (T := fun _ _ => True) (sames_below hb) (fun _ => trivial) (fun _ => trivial) (fun _ => trivial) (fun _ => trivial) (below_trans h.below hb h.below.size) off (Nat.le_refl _) h.le (h.rd.grow hb) (h.rx.grow hb)
theorem Rd.block {zs : List Int} (h : Rd u P H off zs) : ∃ cq, u.heap[P]? = some (.cells cq 68 (0, 0)) := by
  obtain ⟨a, e1, _⟩ := h
  exact ⟨_, e1⟩
/-- behind a call of the document's reader and one of the reader that is asked -/
theorem Sta.move (h : Sta w P H X K F n c xa xc zb u off ans) {u1 u2 : World} (h1 : u.grownBy u1 (some X)) (h2 : u1.grownBy u2 (some P)) (hP : w.heap.size ≤ P) (hX : w.heap.size ≤ X) (off' : Nat) (hoff : off ≤ off') (hle : off' ≤ zb.length) (hrx : Rx u1 X xa xc off' zb) (hrd : Rd u2 P H off' (zb.drop off')) (hP1 : ∃ cq, u1.heap[P]? = some (.cells cq 68 (0, 0))) : Sta w P H X K F n c xa xc zb u2 off' ans := by
  have s1 : Sames (fun t _ => t ≠ 70) u u1 := sames_grown h1 h.rx.1
  obtain ⟨cq, hq⟩ := hP1
  have s2 : Sames (fun t _ => t ≠ 68) u1 u2 := sames_grown h2 hq
  have s : Sames (fun t _ => t ≠ 70 ∧ t ≠ 68) u u2 := fun b cur t fr ht hb => s2 b cur t fr ht.2 (s1 b cur t fr ht.1 hb)
  have b1 : Below w.heap.size w u1 := h.below.grown h1 h.below.size (fun k hk => by cases hk; exact hX)
  have b2 : Below w.heap.size w u2 := b1.grown h2 b1.size (fun k hk => by cases hk; exact hP)
  have hx1 : ∀ g, xa = some ⟨g, 0, none⟩ → ∃ cur, u1.heap[g]? = some (.cells cur 5 (0, 0)) := fun g e => by
    obtain ⟨cu, hcu⟩ := h.xrow g e
    exact ⟨cu, s1 _ _ _ _ (by simp) hcu⟩
  exact h.next s (fun _ => by simp) (fun _ => by simp) (fun _ => by simp) (fun _ => by simp) b2 off' hoff hle hrd (rx_same hrx s2 hx1 (by simp) (fun _ _ => by simp))
theorem Sta.rd1 (h : Sta w P H X K F n c xa xc zb u off ans) {u1 : World} (h1 : u.grownBy u1 (some X)) : Rd u1 P H off (zb.drop off) :=
  rd_same h.rd (sames_grown h1 h.rx.1) h.hrow (by simp) (by simp)
theorem grown_of_below (q : Nat) (h : Below u.heap.size u u') : u.grownBy u' (some q) := ⟨h.os, h.tape, h.output, h.size, fun k hk _ => h.block k hk⟩
/-- one more list that was answered -/
theorem Sta.add (h : Sta w P H X K F n c xa xc zb u off ans) {x : Ans × List Int} (hk : Keeps K u u') (hb : Below w.heap.size u u') (hbook : BookAt u' K w.heap.size (ans ++ [x])) (hl : x.1.Lies u) (hh : x.1.n = x.2.length ∧ BytesAt u x.1.a x.2) (hsz : x.1.n ≤ 16777216)
    (hp : x.1.n ≠ 0 → w.heap.size ≤ x.1.b ∧ x.1.b ≠ F ∧ (∀ g, xa = some ⟨g, 0, none⟩ → x.1.b ≠ g) ∧ (x.1.b = H → x.1.o + x.1.n ≤ off)) (hap : ∀ A ∈ ans.map (·.1), Ans.Apart A x.1) : Sta w P H X K F n c xa xc zb u' off (ans ++ [x]) := by
  have hs := sames_keeps hk
  obtain ⟨ra, rc, sa, sc, hK, _, _⟩ := h.book
  have nk : ∀ (b : Nat) (cur : Array Value) (t : TypeId) (fr : Nat × Nat), u.heap[b]? = some (.cells cur t fr) → t ≠ 49 → b ≠ K := fun b cur t fr hb ht e => by
    subst e
    rw [hK] at hb
    simp only [Option.some.injEq, Obj.cells.injEq] at hb
    exact ht hb.2.1.symm
  obtain ⟨zf, f1, f2, f3⟩ := h.full
  obtain ⟨cur, hc, hle⟩ := h.hrow
  obtain ⟨cp, hcp⟩ := h.rd.block
  have nA : ∀ A : Ans, A.Lies u → A.n ≠ 0 → A.b ≠ K := fun A hA h0 => by
    rcases hA with e | ⟨_, cu, hcu, _⟩
    · exact absurd e h0
    · exact nk _ _ _ _ hcu (by decide)
  have hF : ∃ cf, u.heap[F]? = some (.cells cf 5 (0, 0)) := by
    rcases f3.2 with ⟨e, _⟩ | ⟨g, cap, cu, hv, _, hg, _⟩
    · cases e
    · cases hv; exact ⟨cu, hg⟩
  obtain ⟨cf, hcf⟩ := hF
  refine ⟨rd_same h.rd hs h.hrow ⟨nk _ _ _ _ hcp (by decide), by decide, by decide⟩ ⟨nk _ _ _ _ hc (by decide), by decide, by decide⟩, rx_same h.rx hs h.xrow ⟨nk _ _ _ _ h.rx.1 (by decide), by decide, by decide⟩ (fun g e => ?_), ⟨zf, f1, f2, row_same f3 hs (fun g e => ?_)⟩, hbook, fun A hA => ?_, fun y hy => ?_, fun A hA h0 => ?_, fun y hy => ?_, ?_, h.below.trans hb, ⟨cur, hs _ _ _ _ ⟨nk _ _ _ _ hc (by decide), by decide, by decide⟩ hc, hle⟩, fun g e => ?_, h.le⟩
  · obtain ⟨cu, hcu⟩ := h.xrow g e
    exact ⟨nk _ _ _ _ hcu (by decide), by decide, by decide⟩
  · cases e
    exact ⟨nk _ _ _ _ hcf (by decide), by decide, by decide⟩
  · rw [List.map_append] at hA
    rcases List.mem_append.1 hA with hA | hA
    · exact lies_same (h.lies A hA) hs (fun h0 => ⟨nA A (h.lies A hA) h0, by decide, by decide⟩)
    · simp at hA; subst hA
      exact lies_same hl hs (fun h0 => ⟨nA _ hl h0, by decide, by decide⟩)
  · rcases List.mem_append.1 hy with hy | hy
    · have hy1 := h.lies _ (List.mem_map_of_mem (f := (·.1)) hy)
      exact has_same hy1 (h.has y hy) hs (fun h0 => ⟨nA _ hy1 h0, by decide, by decide⟩)
    · simp at hy; subst hy
      exact has_same hl hh hs (fun h0 => ⟨nA _ hl h0, by decide, by decide⟩)
  · rw [List.map_append] at hA
    rcases List.mem_append.1 hA with hA | hA
    · exact h.place A hA h0
    · simp at hA; subst hA; exact hp h0
  · rcases List.mem_append.1 hy with hy | hy
    · exact h.sz y hy
    · simp at hy; subst hy; exact hsz
  · rw [List.map_append, List.pairwise_append]
    exact ⟨h.apart, by simp, fun A hA C hC => by simp at hC; subst hC; exact hap A hA⟩
  · obtain ⟨cu, hcu⟩ := h.xrow g e
    exact ⟨cu, hs _ _ _ _ ⟨nk _ _ _ _ hcu (by decide), by decide, by decide⟩ hcu⟩
end
end Go.Proofs.Ytfncocffnfebbaa
