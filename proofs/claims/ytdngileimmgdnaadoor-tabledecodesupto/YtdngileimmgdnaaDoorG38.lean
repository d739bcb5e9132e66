/- TableDecodes: l[i] = append(l[i], ..) done. -/
import Derived.Test.YtdngileimmgdnaaDoorG34
namespace Go.Proofs.YtdngileimmgdnaaDoor
open Go Go.RowKit

section
variable {w3 u v : World} {ns : List (Value × List Value)} {lv : Value} {ws : List (Value × List Nat)} {rows : List (Value × List Int)} {mine : Rw} {rsv wv : Value}
theorem Td.fdI {V : Value} {r : List Int} {t : Nat} (_h : Td w3 u ns lv ws rows mine rsv wv) (hp : rows[t]? = some (V, r)) : fd (ns ++ [(lv, rows.map Prod.fst)]) ws rows [mine, (23, rsv, ns.map Prod.fst), (24, wv, ws.map Prod.fst)] (4 * t + 2) = some (3, V, ints r) := by rw [fd2, hp]; rfl
theorem Td.fdW {V : Value} {r : List Nat} {t : Nat} (_h : Td w3 u ns lv ws rows mine rsv wv) (hp : ws[t]? = some (V, r)) : fd (ns ++ [(lv, rows.map Prod.fst)]) ws rows [mine, (23, rsv, ns.map Prod.fst), (24, wv, ws.map Prod.fst)] (4 * t + 1) = some (27, V, u32s r) := by rw [fd1, hp]; rfl
theorem Td.fdN {V : Value} {r : List Value} {t : Nat} (_h : Td w3 u ns lv ws rows mine rsv wv) (hp : ns[t]? = some (V, r)) : fd (ns ++ [(lv, rows.map Prod.fst)]) ws rows [mine, (23, rsv, ns.map Prod.fst), (24, wv, ws.map Prod.fst)] (4 * t) = some (41, V, r) := by rw [fd0, List.getElem?_append_left (List.getElem?_eq_some_iff.1 hp).1, hp]; rfl
theorem appI_done {gl N c t : Nat} {V V' : Value} {r r' : List Int} (h : Td w3 u ns (.slice (some ⟨gl, 0, none⟩) N c) ws rows mine rsv wv) (hp : rows[t]? = some (V, r)) (hf : Fam w3.heap.size v (upd (fd (ns ++ [(.slice (some ⟨gl, 0, none⟩) N c, rows.map Prod.fst)]) ws rows [mine, (23, rsv, ns.map Prod.fst), (24, wv, ws.map Prod.fst)]) (4 * t + 2) (3, V', ints r'))) (hg : u.grownBy v V.ownBlock) :
    (∃ a n c', V' = .slice a n c') ∧ v.cell? ⟨gl, t, none⟩ = some V ∧ v.frozen? ⟨gl, t, none⟩ = false ∧ Td w3 (v.setCell ⟨gl, t, none⟩ V') ns (.slice (some ⟨gl, 0, none⟩) N c) ws (rows.set t (V', r')) mine rsv wv := by
  have ho := hf.own (4 * 2) 41 (.slice (some ⟨gl, 0, none⟩) N c) (rows.map Prod.fst) (by rw [upd_ne _ _ (by omega), fd0, ← h.two]; simp)
  obtain ⟨_, g, eg, _, _, hc, hfr⟩ := row_cell ho (k := t) (x := V) (by rw [List.getElem?_map, hp]; rfl)
  cases eg
  obtain ⟨a, c', e, _, _⟩ := own_f (hf.own (4 * t + 2) _ _ _ (upd_at _ _ _))
  exact ⟨⟨a, _, c', e⟩, hc, hfr, td_appI hf (h.low.grown hg h.low.size (fun k hk => (own_at (h.ownR hp) k hk).1)) h.two (List.getElem?_eq_some_iff.1 hp).1⟩
theorem appW_done {gw N c t : Nat} {V V' : Value} {r r' : List Nat} (h : Td w3 u ns lv ws rows mine rsv (.slice (some ⟨gw, 0, none⟩) N c)) (hp : ws[t]? = some (V, r)) (hf : Fam w3.heap.size v (upd (fd (ns ++ [(lv, rows.map Prod.fst)]) ws rows [mine, (23, rsv, ns.map Prod.fst), (24, .slice (some ⟨gw, 0, none⟩) N c, ws.map Prod.fst)]) (4 * t + 1) (27, V', u32s r'))) (hg : u.grownBy v V.ownBlock) :
    (∃ a n c', V' = .slice a n c') ∧ v.cell? ⟨gw, t, none⟩ = some V ∧ v.frozen? ⟨gw, t, none⟩ = false ∧ Td w3 (v.setCell ⟨gw, t, none⟩ V') ns lv (ws.set t (V', r')) rows mine rsv (.slice (some ⟨gw, 0, none⟩) N c) := by
  have ho := hf.own (4 * 2 + 3) _ _ _ (by rw [upd_ne _ _ (by omega), fd3]; rfl)
  obtain ⟨_, g, eg, _, _, hc, hfr⟩ := row_cell ho (k := t) (x := V) (by rw [List.getElem?_map, hp]; rfl)
  cases eg
  obtain ⟨a, c', e, _, _⟩ := own_f (hf.own (4 * t + 1) _ _ _ (upd_at _ _ _))
  exact ⟨⟨a, _, c', e⟩, hc, hfr, td_appW hf (h.low.grown hg h.low.size (fun k hk => (own_at (h.ownW hp) k hk).1)) h.two (List.getElem?_eq_some_iff.1 hp).1⟩
theorem appN_done {gs N c t : Nat} {V V' : Value} {r r' : List Value} (h : Td w3 u ns lv ws rows mine (.slice (some ⟨gs, 0, none⟩) N c) wv) (hp : ns[t]? = some (V, r)) (hf : Fam w3.heap.size v (upd (fd (ns ++ [(lv, rows.map Prod.fst)]) ws rows [mine, (23, .slice (some ⟨gs, 0, none⟩) N c, ns.map Prod.fst), (24, wv, ws.map Prod.fst)]) (4 * t) (41, V', r'))) (hg : u.grownBy v V.ownBlock) :
    (∃ a n c', V' = .slice a n c') ∧ v.cell? ⟨gs, t, none⟩ = some V ∧ v.frozen? ⟨gs, t, none⟩ = false ∧ TyB v 23 gs ∧ Td w3 (v.setCell ⟨gs, t, none⟩ V') (ns.set t (V', r')) lv ws rows mine (.slice (some ⟨gs, 0, none⟩) N c) wv := by
  have ho := hf.own (4 * 1 + 3) _ _ _ (by rw [upd_ne _ _ (by omega), fd3]; rfl)
  obtain ⟨_, g, eg, _, hty, hc, hfr⟩ := row_cell ho (k := t) (x := V) (by rw [List.getElem?_map, hp]; rfl)
  cases eg
  obtain ⟨a, c', e, _, _⟩ := own_f (hf.own (4 * t) _ _ _ (upd_at _ _ _))
  exact ⟨⟨a, _, c', e⟩, hc, hfr, hty, td_appN hf (h.low.grown hg h.low.size (fun k hk => (own_at (h.ownN hp) k hk).1)) h.two (List.getElem?_eq_some_iff.1 hp).1⟩
end
/-- all marked; the rows from t on are still short -/
structure AfI (N t : Nat) (rows : List (Value × List Int)) : Prop where
  sh : ShI N 4099 N rows
  lo : ∀ (s : Nat) (p : Value × List Int), t ≤ s → rows[s]? = some p → p.2.length ≤ 4096
structure AfW (t : Nat) (ws : List (Value × List Nat)) : Prop where
  sh : ShW 4099 4 ws
  lo : ∀ (s : Nat) (p : Value × List Nat), t ≤ s → ws[s]? = some p → p.2.length ≤ 4096
theorem AfI.start {N : Nat} {rows : List (Value × List Int)} (h : ShI N 4096 N rows) : AfI N 0 rows := ⟨⟨h.n, fun p hp => by have := h.c p hp; omega, h.m⟩, fun s p _ hp => h.c p (List.mem_of_getElem? hp)⟩
theorem AfW.start {ws : List (Value × List Nat)} (h : ShW 4096 4 ws) : AfW 0 ws := ⟨⟨h.n, fun p hp => by have := h.c p hp; omega, h.m⟩, fun s p _ hp => h.c p (List.mem_of_getElem? hp)⟩
theorem AfI.step {N t : Nat} {rows : List (Value × List Int)} (h : AfI N t rows) {V : Value} {r : List Int} (hr : ∀ z ∈ r, z = -1000 - (t : Int)) (hl : r.length ≤ 4099) (ht : t < N) : AfI N (t + 1) (rows.set t (V, r)) := by
  refine ⟨⟨by rw [List.length_set]; exact h.sh.n, fun p hp => ?_, fun s p hs hp => ?_⟩, fun s p hs hp => ?_⟩
  · rcases List.mem_or_eq_of_mem_set hp with h' | h'
    · exact h.sh.c p h'
    · rw [h']; exact hl
  · by_cases e : s = t
    · subst e
      rw [List.getElem?_set_self (by rw [h.sh.n]; exact ht)] at hp
      cases hp
      exact hr
    · rw [List.getElem?_set_ne (by omega)] at hp
      exact h.sh.m s p (by omega) hp
  · rw [List.getElem?_set_ne (by omega)] at hp
    exact h.lo s p (by omega) hp
theorem AfW.step {t : Nat} {ws : List (Value × List Nat)} (h : AfW t ws) {V : Value} {r : List Nat} (hr : ∀ z ∈ r, z = 1000 + t) (hl : r.length ≤ 4099) (ht : t < 4) : AfW (t + 1) (ws.set t (V, r)) := by
  refine ⟨⟨by rw [List.length_set]; exact h.sh.n, fun p hp => ?_, fun s p hs hp => ?_⟩, fun s p hs hp => ?_⟩
  · rcases List.mem_or_eq_of_mem_set hp with h' | h'
    · exact h.sh.c p h'
    · rw [h']; exact hl
  · by_cases e : s = t
    · subst e
      rw [List.getElem?_set_self (by rw [h.sh.n]; exact ht)] at hp
      cases hp
      exact hr
    · rw [List.getElem?_set_ne (by omega)] at hp
      exact h.sh.m s p (by omega) hp
  · rw [List.getElem?_set_ne (by omega)] at hp
    exact h.lo s p (by omega) hp
end Go.Proofs.YtdngileimmgdnaaDoor
