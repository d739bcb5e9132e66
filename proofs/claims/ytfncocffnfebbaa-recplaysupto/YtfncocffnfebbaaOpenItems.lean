/- Items (and calls) of a slice that came in: what the walks ask of them; how much they hold, by the second form's bound. -/
import Derived.Test.YtfncocffnfebbaaOpen
import Derived.Test.YtfncocffnfebbaaBack
namespace Go.Proofs.Ytfncocffnfebbaa
open Go.ChangeShapes Go.WideShapes Go.ChangeAt Go.RowKit Go.Deep

theorem bulk_one {H : Type} (d : DataW H) : 1 ≤ Rows.uptoBulk d := by
  cases d with
  | lit l => cases l <;> simp [Rows.uptoBulk]
  | nil => simp [Rows.uptoBulk]
  | ptr d => simp [Rows.uptoBulk]
  | slice elems spare => simp [Rows.uptoBulk]
  | agg parts => simp [Rows.uptoBulk]
  | iface t d => simp [Rows.uptoBulk]
  | map entries => simp [Rows.uptoBulk]
  | held h => simp [Rows.uptoBulk]
/-- what items hold in sum -/
def weight (its : List It) : Nat := (its.map fun i => i.s.size + 5).sum
theorem weight_cons (i : It) (r : List It) : weight (i :: r) = i.s.size + 5 + weight r := by simp [weight]
theorem weight_length (its : List It) : 5 * its.length ≤ weight its := by
  induction its with
  | nil => simp [weight]
  | cons i r ih => rw [weight_cons, List.length_cons]; omega
theorem weight_cat (its : List It) : (cat its).length ≤ 2 * weight its := by
  induction its with
  | nil => simp [weight, cat]
  | cons i r ih => rw [weight_cons, cat_cons, List.length_append]; have := i.enc_length; omega
theorem weight_mem {its : List It} {i : It} (h : i ∈ its) : i.s.size + 5 ≤ weight its := by
  induction its with
  | nil => cases h
  | cons x r ih =>
    rw [weight_cons]
    cases List.mem_cons.1 h with
    | inl e => subst e; omega
    | inr e => have := ih e; omega
theorem bulk_items {H : Type} (l : List Nat) (I : Nat → It) (D : Nat → DataW H) (h : ∀ r ∈ l, (I r).s.size + 5 ≤ Rows.uptoBulk (D r)) : weight (l.map I) ≤ Rows.uptoBulkAll (l.map D) := by
  induction l with
  | nil => simp [weight, Rows.uptoBulkAll]
  | cons x r ih =>
    have h1 := h x (by simp)
    have h2 := ih (fun y hy => h y (by simp [hy]))
    simp only [List.map_cons, Rows.uptoBulkAll]
    rw [weight_cons]
    omega

theorem cells3 : Try.prog.cellsOf 3 = 1 := by kernel_rfl
theorem cells22 : Try.prog.cellsOf 22 = 1 := by kernel_rfl
theorem cells9 : Try.prog.cellsOf 9 = 1 := by kernel_rfl
theorem four {α : Type} {l : List α} (h : l.length = 4) : ∃ a b c d, l = [a, b, c, d] := by
  match l, h with
  | [a, b, c, d], _ => exact ⟨a, b, c, d, rfl⟩

theorem open_items {H : Type} {enc : TypeId × Value → H} {W : World} {t e : TypeId} {a : Option Addr} {len cap : Nat} {d : DataW H} {p : List MemPlace} (ht : Try.prog.underlying t = some (.slice e)) (he : Try.prog.underlying e = Try.prog.underlying 24) (hc : Try.prog.cellsOf e = 4)
    (h : DataW.Trod enc Try.prog W 0 (fun _ => true) true t (.slice a len cap) d p) :
    ∃ its : List It, its.length = len ∧ len ≤ cap ∧ ItemsAt W a its ∧ (∀ i ∈ its, i.x < 18446744073709551616 ∧ -9223372036854775808 ≤ i.n ∧ i.n ≤ 9223372036854775807 ∧ -9223372036854775808 ≤ i.k ∧ i.k ≤ 9223372036854775807) ∧ weight its ≤ Rows.uptoBulk d := by
  obtain ⟨fuel, hf⟩ := h
  rcases open_slice ht hf with ⟨hcs, hx⟩ | ⟨x, l, c, m, n, D, Pl, hcs, _, hl, hm, hmm, hx, hrow⟩
  · simp [Value.cells] at hcs
    obtain ⟨rfl, rfl, rfl⟩ := hcs
    cases hx
    exact ⟨[], rfl, Nat.le_refl _, Or.inl rfl, (fun q hq => by cases hq), by simp [weight]⟩
  · simp [Value.cells] at hcs
    obtain ⟨rfl, rfl, rfl⟩ := hcs
    cases hx
    have hmc : m = cap := by simpa using hmm
    haveI : Inhabited It := ⟨⟨0, 0, 0, ⟨#[]⟩⟩⟩
    obtain ⟨I, hI⟩ := choose_lt (α := It) (n := len) (p := fun i it => (W.cell? (x.add (i * 4)) = some (.int .i64 it.k) ∧ W.cell? (x.add (i * 4 + 1)) = some (.int .i64 it.n) ∧ W.cell? (x.add (i * 4 + 2)) = some (.int .u64 it.x) ∧ W.cell? (x.add (i * 4 + 3)) = some (.string it.s)) ∧
      (it.x < 18446744073709551616 ∧ -9223372036854775808 ≤ it.n ∧ it.n ≤ 9223372036854775807 ∧ -9223372036854775808 ≤ it.k ∧ it.k ≤ 9223372036854775807) ∧ it.s.size + 5 ≤ Rows.uptoBulk (D i)) (fun i hi => by
      obtain ⟨cs', h1, h2⟩ := hrow i (by omega)
      rw [hc] at h1
      obtain ⟨_, hlen, hcell⟩ := World.cells?_some h1
      obtain ⟨v0, v1, v2, v3, rfl⟩ := four hlen
      obtain ⟨y0, y1, y2, y3, q, hy, _, g0, g1, g2, g3⟩ := Go.Joins.trod_struct4 (he.trans Try.underlying24) h2
      simp only [cells3, cells22, cells9, List.drop_zero, List.drop_succ_cons, List.take_succ_cons, List.take_zero] at g0 g1 g2 g3
      obtain ⟨k, nn, X, s, rfl, rfl, rfl, rfl, hx, hn1, hn2, hk1, hk2, e0, e1, e2, e3⟩ := read_item g0 g1 g2 g3
      have c0 := hcell 0 (by omega)
      have c1 := hcell 1 (by omega)
      have c2 := hcell 2 (by omega)
      have c3 := hcell 3 (by omega)
      rw [add_add] at c0 c1 c2 c3
      refine ⟨⟨k, nn, X, s⟩, ⟨c0, c1, c2, c3⟩, ⟨hx, hn1, hn2, hk1, hk2⟩, ?_⟩
      have hs : s.data.toList.length = s.size := by rw [Array.length_toList]; rfl
      have hD : D i = DataW.agg [y0.1, y1.1, y2.1, y3.1] := (Prod.mk.inj hy).1
      rw [hD, e0, e1, e2, e3]
      simp only [Rows.uptoBulk, Rows.uptoBulkAll, hs]
      omega)
    refine ⟨(List.range len).map I, by simp, hl, ?_, ?_, ?_⟩
    · by_cases h0 : 0 < len
      · obtain ⟨b, off, spot⟩ := x
        have hspot : spot = none := by
          have h1 := (hI 0 h0).1.1
          simpa [Addr.add] using World.cell?_spot h1
        subst hspot
        refine Or.inr ⟨b, off, rfl, fun k it hk => ?_⟩
        have hk' : k < len := by
          have := (List.getElem?_eq_some_iff.1 hk).1
          simpa using this
        have hit : I k = it := by
          simp [hk'] at hk
          exact hk
        have hr := (hI k hk').1
        rw [hit] at hr
        simp only [Go.WideShapes.add_plain] at hr
        exact hr
      · exact Or.inl (by have : len = 0 := by omega
                         simp [this])
    · intro i hi
      obtain ⟨r, hr, rfl⟩ := List.mem_map.1 hi
      exact (hI r (List.mem_range.1 hr)).2.1
    · have h1 := bulk_items (List.range len) I D (fun r hr => (hI r (List.mem_range.1 hr)).2.2)
      simp only [Rows.uptoBulk]
      omega
end Go.Proofs.Ytfncocffnfebbaa
