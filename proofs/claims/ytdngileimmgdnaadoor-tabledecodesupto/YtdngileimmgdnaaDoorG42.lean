/- TableDecodes: the lists of rows, each row a number of its own. -/
import Derived.Test.YtdngileimmgdnaaDoorG38
namespace Go.Proofs.YtdngileimmgdnaaDoor
open Go Go.RowKit

/-- the rows of the first t lists are theirs -/
def On (t : Nat) (ns : List (Value × List Value)) (u : World) : Prop := ∀ (s : Nat) (p : Value × List Value), s < t → ns[s]? = some p → ∀ x ∈ p.2, One u x s
/-- the first k rows of a list are t's -/
def Om (t k L : Nat) (r : List Value) (u : World) : Prop := r.length = L ∧ ∀ (j : Nat) (x : Value), j < k → r[j]? = some x → One u x t
theorem On.map {t : Nat} {ns : List (Value × List Value)} {u v : World} (h : On t ns u) (f : ∀ x s, One u x s → One v x s) : On t ns v := fun s p hs hp x hx => f x s (h s p hs hp x hx)
theorem Om.map {t k L : Nat} {r : List Value} {u v : World} (h : Om t k L r u) (f : ∀ x s, One u x s → One v x s) : Om t k L r v := ⟨h.1, fun j x hj hx => f x t (h.2 j x hj hx)⟩
theorem Om.step {t k L : Nat} {r : List Value} {u : World} (h : Om t k L r u) (hk : k < L) {y : Value} (hy : One u y t) : Om t (k + 1) L (r.set k y) u := by
  refine ⟨by rw [List.length_set]; exact h.1, fun j x hj hx => ?_⟩
  by_cases e : j = k
  · subst e
    rw [List.getElem?_set_self (by rw [h.1]; exact hk)] at hx
    cases hx
    exact hy
  · rw [List.getElem?_set_ne (by omega)] at hx
    exact h.2 j x (by omega) hx
theorem On.step {t : Nat} {ns : List (Value × List Value)} {u : World} (h : On t ns u) {V : Value} {r : List Value} (hr : ∀ x ∈ r, One u x t) (ht : t < ns.length) : On (t + 1) (ns.set t (V, r)) u := fun s p hs hp => by
  by_cases e : s = t
  · subst e
    rw [List.getElem?_set_self ht] at hp
    cases hp
    exact hr
  · rw [List.getElem?_set_ne (by omega)] at hp
    exact h s p (by omega) hp
theorem Om.all {t L : Nat} {r : List Value} {u : World} (h : Om t L L r u) : ∀ x ∈ r, One u x t := fun x hx => by
  obtain ⟨j, hj, e⟩ := List.mem_iff_getElem.1 hx
  exact h.2 j x (by rw [← h.1]; exact hj) (by rw [List.getElem?_eq_getElem hj, e])
/-- lengths: the lists from t on are short -/
def Ln (t : Nat) (ns : List (Value × List Value)) : Prop := ∀ (s : Nat) (p : Value × List Value), ns[s]? = some p → p.2.length ≤ 4099 ∧ (t ≤ s → p.2.length ≤ 4096)
theorem Ln.step {t : Nat} {ns : List (Value × List Value)} (h : Ln t ns) {V : Value} {r : List Value} (hl : r.length ≤ 4099) (ht : t < ns.length) : Ln (t + 1) (ns.set t (V, r)) := fun s p hp => by
  by_cases e : s = t
  · subst e
    rw [List.getElem?_set_self ht] at hp
    cases hp
    exact ⟨hl, fun h => by omega⟩
  · rw [List.getElem?_set_ne (by omega)] at hp
    exact ⟨(h s p hp).1, fun hs => (h s p hp).2 (by omega)⟩
theorem Ln.same {t : Nat} {ns : List (Value × List Value)} (h : Ln 0 ns) {V V' : Value} {r r' : List Value} (hp : ns[t]? = some (V, r)) (hl : r'.length = r.length) : Ln 0 (ns.set t (V', r')) := fun s p hs => by
  by_cases e : s = t
  · subst e
    rw [List.getElem?_set_self (List.getElem?_eq_some_iff.1 hp).1] at hs
    cases hs
    have := h s _ hp
    simp only [hl]
    exact this
  · rw [List.getElem?_set_ne (by omega)] at hs
    exact h s p hs
section
variable {w3 u v : World} {ns : List (Value × List Value)} {lv : Value} {ws : List (Value × List Nat)} {rows : List (Value × List Int)} {mine : Rw} {rsv wv : Value}
/-- rows[t][k] = []int{t} -/
theorem putN_one {t g L c k : Nat} {xs : List Value} (h : Td w3 u ns lv ws rows mine rsv wv) (hp : ns[t]? = some (.slice (some ⟨g, 0, none⟩) L c, xs)) (i : Nat) : (∀ x s, One u x s → One ((u.alloc (.cells #[.int .i64 (i : Nat)] 3)).setCell ⟨g, k, none⟩ (.slice (some ⟨u.heap.size, 0, none⟩) 1 1)) x s) ∧ One ((u.alloc (.cells #[.int .i64 (i : Nat)] 3)).setCell ⟨g, k, none⟩ (.slice (some ⟨u.heap.size, 0, none⟩) 1 1)) (.slice (some ⟨u.heap.size, 0, none⟩) 1 1) i ∧ Td w3 ((u.alloc (.cells #[.int .i64 (i : Nat)] 3)).setCell ⟨g, k, none⟩ (.slice (some ⟨u.heap.size, 0, none⟩) 1 1)) (ns.set t (.slice (some ⟨g, 0, none⟩) L c, xs.set k (.slice (some ⟨u.heap.size, 0, none⟩) 1 1))) lv ws rows mine rsv wv := by
  have k1 : Below u.heap.size u (u.alloc (.cells #[.int .i64 (i : Nat)] 3)) := (Below.refl _ _).alloc (Nat.le_refl _) _
  have h2 := h.later k1
  have ty := (own_at (h2.ownN hp) g rfl).2.2
  exact ⟨fun x s hx => (hx.later k1).set ty (by decide) _, (one_fresh u rfl i).set ty (by decide) _, h2.putN hp k _⟩
theorem Td.cellN (h : Td w3 u ns lv ws rows mine rsv wv) {t g L c : Nat} {xs : List Value} (hp : ns[t]? = some (.slice (some ⟨g, 0, none⟩) L c, xs)) {k : Nat} {x : Value} (hx : xs[k]? = some x) : u.cell? ⟨g, k, none⟩ = some x ∧ u.frozen? ⟨g, k, none⟩ = false := by
  obtain ⟨_, g', eg, _, _, hc, hf⟩ := row_cell (h.ownN hp) hx
  cases eg
  exact ⟨hc, hf⟩
/-- rows[t] = append(rows[t], []int{t}) -/
theorem appN_one {gs N c t : Nat} {V V' : Value} {r : List Value} (h : Td w3 u ns lv ws rows mine (.slice (some ⟨gs, 0, none⟩) N c) wv) (hp : ns[t]? = some (V, r)) (hg : u.grownBy v V.ownBlock) (hs : TyB v 23 gs) : ∀ x s, One u x s → One (v.setCell ⟨gs, t, none⟩ V') x s := fun x s hx =>
  (hx.grown hg (fun k hk => (own_at (h.ownN hp) k hk).2.2) (by decide)).set hs (by decide) _
theorem on_app {gs N c t : Nat} {ns2 : List (Value × List Value)} {V2 V3 : Value} {r2 : List Value} {wr : World} {o2 : Obj} (ho : On 2 (ns2.set t (V2, r2)) wr) (ht : t < ns2.length) (h : Td w3 ((wr.alloc (.cells #[.int .i64 (t : Nat)] 3)).alloc o2) (ns2.set t (V2, r2)) lv ws rows mine (.slice (some ⟨gs, 0, none⟩) N c) wv) (hg : ((wr.alloc (.cells #[.int .i64 (t : Nat)] 3)).alloc o2).grownBy v V2.ownBlock) (hs : TyB v 23 gs) : On 2 (ns2.set t (V3, r2 ++ [.slice (some ⟨wr.heap.size, 0, none⟩) 1 1])) (v.setCell ⟨gs, t, none⟩ V3) := by
  have k1 : Below wr.heap.size wr (wr.alloc (.cells #[.int .i64 (t : Nat)] 3)) := (Below.refl _ _).alloc (Nat.le_refl _) _
  have k2 : Below (wr.alloc (.cells #[.int .i64 (t : Nat)] 3)).heap.size (wr.alloc (.cells #[.int .i64 (t : Nat)] 3)) ((wr.alloc (.cells #[.int .i64 (t : Nat)] 3)).alloc o2) := (Below.refl _ _).alloc (Nat.le_refl _) _
  have hp : (ns2.set t (V2, r2))[t]? = some (V2, r2) := List.getElem?_set_self ht
  have f := appN_one (t := t) (V' := V3) h hp hg hs
  intro s p hs2 hps x hx
  by_cases e : s = t
  · subst e
    rw [List.getElem?_set_self ht] at hps
    cases hps
    rcases List.mem_append.1 hx with h' | h'
    · exact f x s (((ho s _ hs2 hp x h').later k1).later k2)
    · simp only [List.mem_singleton] at h'
      subst h'
      exact f _ s ((one_fresh wr rfl s).later k2)
  · rw [List.getElem?_set_ne (by omega)] at hps
    exact f x s (((ho s p hs2 (by rw [List.getElem?_set_ne (by omega)]; exact hps) x hx).later k1).later k2)
end
end Go.Proofs.YtdngileimmgdnaaDoor
