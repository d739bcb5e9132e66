/- The rows of TableDecodes; what Decode answers as rows. -/
import Derived.Test.YtdngileimmgdnaaDoorG31
namespace Go.Proofs.YtdngileimmgdnaaDoor
open Go Go.RowKit

/-- rows by kind: lists of rows (0), words (1), numbers (2), others (3) -/
def fd (nxs : List (Value × List Value)) (ws : List (Value × List Nat)) (rows : List (Value × List Int)) (ot : List Rw) (i : Nat) : Option Rw :=
  if i % 4 = 0 then nxs[i / 4]?.map fun p => (41, p.1, p.2)
  else if i % 4 = 1 then ws[i / 4]?.map fun p => (27, p.1, u32s p.2)
  else if i % 4 = 2 then rows[i / 4]?.map fun p => (3, p.1, ints p.2)
  else ot[i / 4]?
section
variable (nxs : List (Value × List Value)) (ws : List (Value × List Nat)) (rows : List (Value × List Int)) (ot : List Rw)
theorem fd0 (j : Nat) : fd nxs ws rows ot (4 * j) = nxs[j]?.map fun p => (41, p.1, p.2) := by
  unfold fd
  rw [if_pos (by omega), show 4 * j / 4 = j by omega]
theorem fd1 (j : Nat) : fd nxs ws rows ot (4 * j + 1) = ws[j]?.map fun p => (27, p.1, u32s p.2) := by
  unfold fd
  rw [if_neg (by omega), if_pos (by omega), show (4 * j + 1) / 4 = j by omega]
theorem fd2 (j : Nat) : fd nxs ws rows ot (4 * j + 2) = rows[j]?.map fun p => (3, p.1, ints p.2) := by
  unfold fd
  rw [if_neg (by omega), if_neg (by omega), if_pos (by omega), show (4 * j + 2) / 4 = j by omega]
theorem fd3 (j : Nat) : fd nxs ws rows ot (4 * j + 3) = ot[j]? := by
  unfold fd
  rw [if_neg (by omega), if_neg (by omega), if_neg (by omega), show (4 * j + 3) / 4 = j by omega]
theorem fd_set0 {j : Nat} (hj : j < nxs.length) (v : Value) (xs : List Value) : upd (fd nxs ws rows ot) (4 * j) (41, v, xs) = fd (nxs.set j (v, xs)) ws rows ot := by
  funext i
  unfold upd fd
  by_cases e : i = 4 * j
  · subst e
    rw [if_pos rfl, if_pos (by omega), show 4 * j / 4 = j by omega]
    simp [hj]
  · rw [if_neg e]
    by_cases h : i % 4 = 0
    · rw [if_pos h, if_pos h, List.getElem?_set_ne (by omega)]
    · rw [if_neg h, if_neg h]
theorem fd_set1 {j : Nat} (hj : j < ws.length) (v : Value) (xs : List Nat) : upd (fd nxs ws rows ot) (4 * j + 1) (27, v, u32s xs) = fd nxs (ws.set j (v, xs)) rows ot := by
  funext i
  unfold upd fd
  by_cases e : i = 4 * j + 1
  · subst e
    rw [if_pos rfl, if_neg (by omega), if_pos (by omega), show (4 * j + 1) / 4 = j by omega]
    simp [hj]
  · rw [if_neg e]
    by_cases h : i % 4 = 1
    · have h0 : ¬ i % 4 = 0 := by omega
      rw [if_neg h0, if_pos h, if_neg h0, if_pos h, List.getElem?_set_ne (by omega)]
    · by_cases h0 : i % 4 = 0
      · rw [if_pos h0, if_pos h0]
      · rw [if_neg h0, if_neg h0, if_neg h, if_neg h]
theorem fd_set2 {j : Nat} (hj : j < rows.length) (v : Value) (xs : List Int) : upd (fd nxs ws rows ot) (4 * j + 2) (3, v, ints xs) = fd nxs ws (rows.set j (v, xs)) ot := by
  funext i
  unfold upd fd
  by_cases e : i = 4 * j + 2
  · subst e
    rw [if_pos rfl, if_neg (by omega), if_neg (by omega), if_pos (by omega), show (4 * j + 2) / 4 = j by omega]
    simp [hj]
  · rw [if_neg e]
    by_cases h : i % 4 = 2
    · have h0 : ¬ i % 4 = 0 := by omega
      have h1 : ¬ i % 4 = 1 := by omega
      rw [if_neg h0, if_neg h1, if_pos h, if_neg h0, if_neg h1, if_pos h, List.getElem?_set_ne (by omega)]
    · by_cases h0 : i % 4 = 0
      · rw [if_pos h0, if_pos h0]
      · by_cases h1 : i % 4 = 1
        · rw [if_neg h0, if_neg h0, if_pos h1, if_pos h1]
        · rw [if_neg h0, if_neg h0, if_neg h1, if_neg h1, if_neg h, if_neg h]
theorem fd_set3 {j : Nat} (hj : j < ot.length) (r : Rw) : upd (fd nxs ws rows ot) (4 * j + 3) r = fd nxs ws rows (ot.set j r) := by
  funext i
  unfold upd fd
  by_cases e : i = 4 * j + 3
  · subst e
    rw [if_pos rfl, if_neg (by omega), if_neg (by omega), if_neg (by omega), show (4 * j + 3) / 4 = j by omega]
    simp [hj]
  · rw [if_neg e]
    by_cases h : i % 4 = 3
    · have h0 : ¬ i % 4 = 0 := by omega
      have h1 : ¬ i % 4 = 1 := by omega
      have h2 : ¬ i % 4 = 2 := by omega
      rw [if_neg h0, if_neg h1, if_neg h2, if_neg h0, if_neg h1, if_neg h2, List.getElem?_set_ne (by omega)]
    · by_cases h0 : i % 4 = 0
      · rw [if_pos h0, if_pos h0]
      · by_cases h1 : i % 4 = 1
        · rw [if_neg h0, if_neg h0, if_pos h1, if_pos h1]
        · have h2 : i % 4 = 2 := by omega
          rw [if_neg h0, if_neg h1, if_pos h2, if_neg h0, if_neg h1, if_pos h2]
end
theorem fd_more0 (nxs : List (Value × List Value)) (ws : List (Value × List Nat)) (rows : List (Value × List Int)) (ot : List Rw) (v : Value) (xs : List Value) : upd (fd nxs ws rows ot) (4 * nxs.length) (41, v, xs) = fd (nxs ++ [(v, xs)]) ws rows ot := by
  funext i
  unfold upd fd
  by_cases e : i = 4 * nxs.length
  · subst e
    rw [if_pos rfl, if_pos (by omega), show 4 * nxs.length / 4 = nxs.length by omega]
    simp
  · rw [if_neg e]
    by_cases h : i % 4 = 0
    · rw [if_pos h, if_pos h]
      by_cases hl : i / 4 < nxs.length
      · rw [List.getElem?_append_left hl]
      · rw [List.getElem?_append_right (by omega), List.getElem?_eq_none (by omega), List.getElem?_eq_none (by simp; omega)]
    · rw [if_neg h, if_neg h]
theorem fd_more3 (nxs : List (Value × List Value)) (ws : List (Value × List Nat)) (rows : List (Value × List Int)) (ot : List Rw) (r : Rw) : upd (fd nxs ws rows ot) (4 * ot.length + 3) r = fd nxs ws rows (ot ++ [r]) := by
  funext i
  unfold upd fd
  by_cases e : i = 4 * ot.length + 3
  · subst e
    rw [if_pos rfl, if_neg (by omega), if_neg (by omega), if_neg (by omega), show (4 * ot.length + 3) / 4 = ot.length by omega]
    simp
  · rw [if_neg e]
    by_cases h0 : i % 4 = 0
    · rw [if_pos h0, if_pos h0]
    · by_cases h1 : i % 4 = 1
      · rw [if_neg h0, if_neg h0, if_pos h1, if_pos h1]
      · by_cases h2 : i % 4 = 2
        · rw [if_neg h0, if_neg h1, if_pos h2, if_neg h0, if_neg h1, if_pos h2]
        · rw [if_neg h0, if_neg h1, if_neg h2, if_neg h0, if_neg h1, if_neg h2]
          by_cases hl : i / 4 < ot.length
          · rw [List.getElem?_append_left hl]
          · rw [List.getElem?_append_right (by omega), List.getElem?_eq_none (by omega), List.getElem?_eq_none (by simp; omega)]
/-- two families -/
theorem fd_cat {A : Nat} {u v : World} {n1 n2 : List (Value × List Value)} {s1 s2 : List (Value × List Nat)} {r1 r2 : List (Value × List Int)} {o1 o2 : List Rw} (h1 : Fam A u (fd n1 s1 r1 o1)) (hb : Below u.heap.size u v) (h2 : Fam u.heap.size v (fd n2 s2 r2 o2)) (hA : A ≤ u.heap.size) : Fam A v (fd (n1 ++ n2) (s1 ++ s2) (r1 ++ r2) (o1 ++ o2)) := by
  have hv := h1.later hb
  have h2' := h2.lower hA
  -- where row i comes from
  have src : ∀ i r, fd (n1 ++ n2) (s1 ++ s2) (r1 ++ r2) (o1 ++ o2) i = some r → fd n1 s1 r1 o1 i = some r ∨ ∃ k, fd n2 s2 r2 o2 k = some r ∧ k % 4 = i % 4 ∧ (i % 4 = 0 → i / 4 = k / 4 + n1.length) ∧ (i % 4 = 1 → i / 4 = k / 4 + s1.length) ∧ (i % 4 = 2 → i / 4 = k / 4 + r1.length) ∧ (i % 4 = 3 → i / 4 = k / 4 + o1.length) := fun i r h => by
    unfold fd at h
    by_cases c0 : i % 4 = 0
    · rw [if_pos c0] at h
      by_cases hl : i / 4 < n1.length
      · rw [List.getElem?_append_left hl] at h
        left; unfold fd; rw [if_pos c0]; exact h
      · rw [List.getElem?_append_right (by omega)] at h
        right
        refine ⟨4 * (i / 4 - n1.length), ?_, by omega, fun _ => by omega, fun _ => by omega, fun _ => by omega, fun _ => by omega⟩
        rw [fd0]; exact h
    · rw [if_neg c0] at h
      by_cases c1 : i % 4 = 1
      · rw [if_pos c1] at h
        by_cases hl : i / 4 < s1.length
        · rw [List.getElem?_append_left hl] at h
          left; unfold fd; rw [if_neg c0, if_pos c1]; exact h
        · rw [List.getElem?_append_right (by omega)] at h
          right
          refine ⟨4 * (i / 4 - s1.length) + 1, ?_, by omega, fun _ => by omega, fun _ => by omega, fun _ => by omega, fun _ => by omega⟩
          rw [fd1]; exact h
      · rw [if_neg c1] at h
        by_cases c2 : i % 4 = 2
        · rw [if_pos c2] at h
          by_cases hl : i / 4 < r1.length
          · rw [List.getElem?_append_left hl] at h
            left; unfold fd; rw [if_neg c0, if_neg c1, if_pos c2]; exact h
          · rw [List.getElem?_append_right (by omega)] at h
            right
            refine ⟨4 * (i / 4 - r1.length) + 2, ?_, by omega, fun _ => by omega, fun _ => by omega, fun _ => by omega, fun _ => by omega⟩
            rw [fd2]; exact h
        · rw [if_neg c2] at h
          by_cases hl : i / 4 < o1.length
          · rw [List.getElem?_append_left hl] at h
            left; unfold fd; rw [if_neg c0, if_neg c1, if_neg c2]; exact h
          · rw [List.getElem?_append_right (by omega)] at h
            right
            refine ⟨4 * (i / 4 - o1.length) + 3, ?_, by omega, fun _ => by omega, fun _ => by omega, fun _ => by omega, fun _ => by omega⟩
            rw [fd3]; exact h
  refine ⟨fun i t x xs h => ?_, fun i j t x xs t' x' xs' k h h' hk hk' => ?_⟩
  · rcases src i _ h with g | ⟨k, g, _⟩
    · exact hv.own i _ _ _ g
    · exact h2'.own k _ _ _ g
  · rcases src i _ h with g | ⟨a, g, a0, a1, a2, a3, a4⟩ <;> rcases src j _ h' with g' | ⟨b, g', b0, b1, b2, b3, b4⟩
    · exact hv.inj i j _ _ _ _ _ _ k g g' hk hk'
    · have := (own_at (h1.own i _ _ _ g) k hk).2.1
      have := (own_at (h2.own b _ _ _ g') k hk').1
      omega
    · have := (own_at (h1.own j _ _ _ g') k hk').2.1
      have := (own_at (h2.own a _ _ _ g) k hk).1
      omega
    · have e := h2.inj a b _ _ _ _ _ _ k g g' hk hk'
      subst e
      have e4 : i % 4 = j % 4 := by omega
      have : i % 4 = 0 ∨ i % 4 = 1 ∨ i % 4 = 2 ∨ i % 4 = 3 := by omega
      rcases this with c | c | c | c
      · have := a1 c; have := b1 (by omega); omega
      · have := a2 c; have := b2 (by omega); omega
      · have := a3 c; have := b3 (by omega); omega
      · have := a4 c; have := b4 (by omega); omega
/-- what Decode answers, as rows -/
structure DecF (b : List Int) (w w' : World) (d : Dt) (V1 V2 V3 : Value) (Us : List Value) : Prop where
  df : DfAt w' d V1 V2 V3 Us
  r : R64 d.cl
  same : sameD d (decT b)
  low : Below w.heap.size w w'
  fam : Fam w.heap.size w' (fd [(V1, Us)] [(V2, d.fo), (V3, d.en)] (Us.zip d.nx) [])
  S : d.S ≤ 4096
  C : ∀ r ∈ d.nx, r.length ≤ 256
  F : d.fo.length ≤ 4096 ∧ d.en.length ≤ 4096
theorem fam_nils (B : Nat) (u : World) : Fam B u (fd [(nilV, [])] [(nilV, []), (nilV, [])] [] []) := by
  have key : ∀ i t v xs, fd [(nilV, [])] [(nilV, []), (nilV, [])] [] [] i = some (t, v, xs) → v = .slice none 0 0 ∧ xs = [] := fun i t v xs h => by
    unfold fd at h
    split at h
    · cases hh : ([(nilV, [])] : List (Value × List Value))[i / 4]? with
      | none => rw [hh] at h; simp at h
      | some p =>
        have := List.mem_of_getElem? hh
        simp at this
        subst this
        rw [hh] at h
        simp at h
        exact ⟨h.2.1.symm, h.2.2⟩
    · split at h
      · cases hh : ([(nilV, []), (nilV, [])] : List (Value × List Nat))[i / 4]? with
        | none => rw [hh] at h; simp at h
        | some p =>
          have := List.mem_of_getElem? hh
          simp at this
          subst this
          rw [hh] at h
          simp [u32s] at h
          exact ⟨h.2.1.symm, h.2.2⟩
      · split at h <;> simp at h
  refine ⟨fun i t v xs h => ?_, fun i j t v xs t' v' xs' k h _ hb _ => ?_⟩
  · obtain ⟨rfl, rfl⟩ := key i t v xs h
    exact World.ownsRow_nil u B t 1
  · obtain ⟨rfl, rfl⟩ := key i t v xs h
    simp [Value.ownBlock] at hb
theorem dec_fam {b : List Int} {w w' : World} {e : Ending} (hb : Rec.Bs b) (h : DecPost b w e w') : ∃ d V1 V2 V3 Us, e = .returned (.tuple #[.agg (dv d.cl V1 V2 V3), .int .i64 (if okT b then 0 else 120)]) ∧ DecF b w w' d V1 V2 V3 Us := by
  obtain ⟨h1 | ⟨h1, rfl⟩, k⟩ := h
  · obtain ⟨h1, V1, V2, V3, Us, Hb, Tt, rfl, htm⟩ := h1
    obtain ⟨bf, be⟩ := rdT_words (Rec.bs_take hb (b.length - 4))
    have hbf : Rec.Bs (frontB b) := Rec.bs_take hb (b.length - 4)
    have hw : wholeT (frontB b) = true := by unfold okT at h1; simp only [Bool.and_eq_true] at h1; exact h1.2.1
    obtain ⟨_, g2, g3, _⟩ := whole_parts hw
    have hlU := htm.lenUs
    refine ⟨rdT (frontB b), V1, V2, V3, Us, by rw [h1]; rfl, htm.read bf be, r64_rd hbf, by unfold decT; rw [h1]; exact sameD.refl _, k, ?_, by rw [rdT_S]; exact g2, fun r hr => ?_, by simp only [rdT, List.length_map, List.length_range]; exact ⟨g2, g2⟩⟩
    · have own : ∀ i t v xs, fd [(V1, Us)] [(V2, (rdT (frontB b)).fo), (V3, (rdT (frontB b)).en)] (Us.zip (rdT (frontB b)).nx) [] i = some (t, v, xs) → w'.ownsRow w.heap.size t 1 v xs.length xs ∧ ((i = 0 ∧ v = V1 ∧ t = 41) ∨ (i = 1 ∧ v = V2 ∧ t = 27) ∨ (i = 5 ∧ v = V3 ∧ t = 27) ∨ (i % 4 = 2 ∧ Us[i / 4]? = some v ∧ t = 3)) := fun i t v xs h => by
        have c4 : i % 4 = 0 ∨ i % 4 = 1 ∨ i % 4 = 2 ∨ i % 4 = 3 := by omega
        obtain ⟨j, hj⟩ : ∃ j, j = i / 4 := ⟨_, rfl⟩
        rcases c4 with c | c | c | c
        · obtain rfl : i = 4 * j := by omega
          rw [fd0] at h
          cases j with
          | succ j => simp at h
          | zero =>
            simp at h
            obtain ⟨rfl, rfl, rfl⟩ := h
            have := htm.nx
            rw [← hlU] at this
            exact ⟨this, .inl ⟨rfl, rfl, rfl⟩⟩
        · obtain rfl : i = 4 * j + 1 := by omega
          rw [fd1] at h
          match j with
          | 0 =>
            simp at h
            obtain ⟨rfl, rfl, rfl⟩ := h
            have := htm.fo
            rw [← u32s_len] at this
            exact ⟨this, .inr (.inl ⟨rfl, rfl, rfl⟩)⟩
          | 1 =>
            simp at h
            obtain ⟨rfl, rfl, rfl⟩ := h
            have := htm.en
            rw [← u32s_len] at this
            exact ⟨this, .inr (.inr (.inl ⟨rfl, rfl, rfl⟩))⟩
          | j + 2 => simp at h
        · obtain rfl : i = 4 * j + 2 := by omega
          rw [fd2] at h
          cases hz : (Us.zip (rdT (frontB b)).nx)[j]? with
          | none => rw [hz] at h; simp at h
          | some p =>
            rw [hz] at h
            simp at h
            obtain ⟨rfl, rfl, rfl⟩ := h
            rw [List.getElem?_zip_eq_some] at hz
            have := (htm.row j p.2 p.1 hz.2 hz.1).2
            rw [← ints_len] at this
            exact ⟨this, .inr (.inr (.inr ⟨by omega, by rw [show (4 * j + 2) / 4 = j by omega]; exact hz.1, rfl⟩))⟩
        · obtain rfl : i = 4 * j + 3 := by omega
          rw [fd3] at h
          simp at h
      refine ⟨fun i t v xs h => (own i t v xs h).1, fun i j t v xs t' v' xs' k h h' hk hk' => ?_⟩
      obtain ⟨o1, c1⟩ := own i t v xs h
      obtain ⟨o2, c2⟩ := own j t' v' xs' h'
      have ty := TyB.ne (own_at o1 k hk).2.2 (own_at o2 k hk').2.2
      rcases c1 with ⟨rfl, rfl, rfl⟩ | ⟨rfl, rfl, rfl⟩ | ⟨rfl, rfl, rfl⟩ | ⟨m1, u1, rfl⟩ <;> rcases c2 with ⟨rfl, rfl, rfl⟩ | ⟨rfl, rfl, rfl⟩ | ⟨rfl, rfl, rfl⟩ | ⟨m2, u2, rfl⟩ <;> first | rfl | exact absurd ty (by decide) | exact absurd hk' (htm.own.2.2.2 k hk) | exact absurd hk (htm.own.2.2.2 k hk') | skip
      have := htm.inj _ _ k v v' u1 u2 hk hk'
      omega
    · obtain ⟨s, _, rfl⟩ := List.mem_map.1 hr
      rw [rdRow_len]
      exact g3
  · exact ⟨zeroDt, nilV, nilV, nilV, [], by rw [h1]; rfl, zero_df w', r64_zero, by unfold decT; rw [h1]; exact sameD.refl _, k, fam_nils _ _, by simp [zeroDt, Dt.S], fun r hr => by simp [zeroDt] at hr, by simp [zeroDt]⟩
end Go.Proofs.YtdngileimmgdnaaDoor
