/- One more list that was answered goes into the book; a reader over a copy, its block told. -/
import Derived.Test.YtfncocffnfebbaaState
namespace Go.Proofs.Ytfncocffnfebbaa
open Go.RowKit
attribute [local go_sem ↓] Go.wp_at_zero Go.wp_at_succ

/-- bytes of a slice in a block of bytes -/
def Held (u : World) (a : Option Addr) (zs : List Int) : Prop := zs = [] ∨ ∃ b o cur, a = some ⟨b, o, none⟩ ∧ u.heap[b]? = some (.cells cur 5 (0, 0)) ∧ BytesAt u a zs
theorem Held.bytes {u : World} {a : Option Addr} {zs : List Int} (h : Held u a zs) : BytesAt u a zs := by
  rcases h with h0 | ⟨_, _, _, _, _, h⟩
  · exact Or.inl h0
  · exact h
theorem Held.same {T : TypeId → Nat → Prop} {u u' : World} {a : Option Addr} {zs : List Int} (h : Held u a zs) (hs : Sames T u u') (h5 : ∀ g, (∃ cur, u.heap[g]? = some (.cells cur 5 (0, 0))) → T 5 g) : Held u' a zs := by
  rcases h with h0 | ⟨b, o, cur, rfl, hb, hy⟩
  · exact Or.inl h0
  · exact Or.inr ⟨b, o, cur, rfl, hs _ _ _ _ (h5 b ⟨cur, hb⟩) hb, bytes_same hs hb (h5 b ⟨cur, hb⟩) hy⟩
theorem Held.later {u u' : World} {a : Option Addr} {zs : List Int} (h : Held u a zs) (hb : Below u.heap.size u u') : Held u' a zs := h.same (T := fun _ _ => True) (sames_below hb) (fun _ _ => trivial)

section
variable {w : World} {P H X K F n c : Nat} {xa : Option Addr} {xc : Nat} {zb : List Int} {u u' : World} {off : Nat} {ans : List (Ans × List Int)}

theorem Sta.notK (h : Sta w P H X K F n c xa xc zb u off ans) {b : Nat} (hb : ∃ cur, u.heap[b]? = some (.cells cur 5 (0, 0))) : b ≠ K := fun e => by
  obtain ⟨ra, rc, sa, sc, hK, _, _⟩ := h.book
  obtain ⟨cur, hc⟩ := hb
  subst e
  rw [hK] at hc
  simp at hc
theorem Held.keeps (h : Sta w P H X K F n c xa xc zb u off ans) {a : Option Addr} {zs : List Int} (hh : Held u a zs) (hk : Keeps K u u') : Held u' a zs :=
  hh.same (sames_keeps hk) (fun _ hg => ⟨h.notK hg, by decide, by decide⟩)
/-- where a new block lies -/
theorem Sta.fresh (h : Sta w P H X K F n c xa xc zb u off ans) (g m : Nat) (hg : u.heap.size ≤ g) :
    (w.heap.size ≤ g ∧ g ≠ F ∧ (∀ g', xa = some ⟨g', 0, none⟩ → g ≠ g') ∧ (g = H → 0 + m ≤ off)) ∧ ∀ A ∈ ans.map (·.1), Ans.Apart A ⟨some ⟨g, 0, none⟩, g, 0, m⟩ := by
  obtain ⟨zf, _, _, f3⟩ := h.full
  have hF : F < u.heap.size := by
    rcases f3.2 with ⟨e, _⟩ | ⟨g', cap, cu, hv, _, hg', _⟩
    · cases e
    · cases hv; exact (Array.getElem?_eq_some_iff.1 hg').1
  obtain ⟨cur, hc, _⟩ := h.hrow
  have hH : H < u.heap.size := (Array.getElem?_eq_some_iff.1 hc).1
  refine ⟨⟨Nat.le_trans h.below.size hg, by omega, fun g' e => ?_, fun e => by omega⟩, fun A hA => ?_⟩
  · obtain ⟨cu, hcu⟩ := h.xrow g' e
    have := (Array.getElem?_eq_some_iff.1 hcu).1
    omega
  · rcases h.lies A hA with h0 | ⟨_, cu, hcu, _⟩
    · exact Or.inl h0
    · have := (Array.getElem?_eq_some_iff.1 hcu).1
      exact Or.inr (Or.inr (Or.inl (by show A.b ≠ g; omega)))

theorem sta_take (h : Sta w P H X K F n c xa xc zb u off ans) (hBK : w.heap.size ≤ K) (hm : ans.length ≤ 1000) (A : Ans) (zs : List Int) (aw : Option Addr) (wn cw : Nat) (hl : A.Lies u) (hh : A.n = zs.length ∧ BytesAt u A.a zs) (hsz : A.n ≤ 16777216)
    (hp : A.n ≠ 0 → w.heap.size ≤ A.b ∧ A.b ≠ F ∧ (∀ g, xa = some ⟨g, 0, none⟩ → A.b ≠ g) ∧ (A.b = H → A.o + A.n ≤ off)) (hap : ∀ A' ∈ ans.map (·.1), Ans.Apart A' A) (hw : Held u aw zs) (hwn : wn = zs.length) :
    Calls Try.prog 17 #[.pointer (some ⟨K, 0, none⟩), .slice A.a A.n A.n, .slice aw wn cw] u fun e u' => e = .returned (.bool true) ∧ Sta w P H X K F n c xa xc zb u' off (ans ++ [(A, zs)]) ∧ Keeps K u u' := by
  refine (take_book K w.heap.size wn cw aw ans A zs u h.book hBK h.below.size hm hh.2 hh.1 hw.bytes hwn ?_ ?_).mono ?_
  · rcases hw with h0 | ⟨b, o, cur, e, hb, _⟩
    · exact Or.inl h0
    · exact Or.inr ⟨b, o, cur, _, e, h.notK ⟨cur, hb⟩, hb⟩
  · by_cases h0 : A.n = 0
    · exact Or.inl (List.eq_nil_of_length_eq_zero (by rw [← hh.1]; exact h0))
    · rcases hl with e | ⟨ha, cur, hb, _⟩
      · exact absurd e h0
      · exact Or.inr ⟨A.b, A.o, cur, _, ha, h.notK ⟨cur, hb⟩, hb⟩
  · rintro e u' ⟨rfl, hbk, hk, hb⟩
    exact ⟨rfl, h.add hk hb hbk hl hh hsz hp hap, hk⟩
theorem sta_left (h : Sta w P H X K F n c xa xc zb u off ans) : Calls Try.prog 13 #[.pointer (some ⟨P, 0, none⟩)] u fun e u' => e = .returned (.int .i64 (zb.length - off : Nat)) ∧ u' = u := by
  have := left_any P H off _ u h.rd
  rw [List.length_drop] at this
  exact this
theorem sta_xleft (h : Sta w P H X K F n c xa xc zb u off ans) (hl : zb.length ≤ 16777216) : Calls Try.prog 25 #[.pointer (some ⟨X, 0, none⟩)] u fun e u' => e = .returned (.int .i64 (zb.length - off : Nat)) ∧ Sta w P H X K F n c xa xc zb u' off ans ∧ Below u.heap.size u u' :=
  (xleft_any X xa xc off zb u h.rx hl).mono fun _ _ g => ⟨g.1, h.grow g.2, g.2⟩
end
end Go.Proofs.Ytfncocffnfebbaa
