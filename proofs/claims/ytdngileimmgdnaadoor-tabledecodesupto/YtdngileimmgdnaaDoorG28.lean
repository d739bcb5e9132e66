/- heronlaw12.copied: a table in lists of its own, a mark in the room behind each. -/
import Derived.Test.YtdngileimmgdnaaDoorG27
namespace Go.Proofs.YtdngileimmgdnaaDoor
open Go Go.RowKit
attribute [local go_sem ↓] Go.wp_at_zero Go.wp_at_succ

/-- the rows of the law: bytes (0 to 3), the list of rows (4), the words (5, 6), the rows (from 7 on) -/
def fm (bs rows : List (Value × List Int)) (nx : Value × List Value) (fo en : Value × List Nat) (i : Nat) : Option Rw :=
  if i < 4 then bs[i]?.map fun p => (5, p.1, cellsOf p.2)
  else if i = 4 then some (41, nx.1, nx.2)
  else if i = 5 then some (27, fo.1, u32s fo.2)
  else if i = 6 then some (27, en.1, u32s en.2)
  else rows[i - 7]?.map fun p => (3, p.1, ints p.2)
def nilS : Value := .slice none 0 0
theorem fam_none (A : Nat) (u : World) : Fam A u (fm [] [] (nilS, []) (nilS, []) (nilS, [])) := by
  have key : ∀ i t v xs, fm [] [] (nilS, []) (nilS, []) (nilS, []) i = some (t, v, xs) → v = .slice none 0 0 ∧ xs = [] := fun i t v xs h => by
    unfold fm nilS u32s at h
    split at h
    · simp at h
    · split at h
      · simp at h; exact ⟨h.2.1.symm, h.2.2⟩
      · split at h
        · simp at h; exact ⟨h.2.1.symm, h.2.2⟩
        · split at h
          · simp at h; exact ⟨h.2.1.symm, h.2.2⟩
          · simp at h
  refine ⟨fun i t v xs h => ?_, fun i j t v xs t' v' xs' k h _ hb _ => ?_⟩
  · obtain ⟨rfl, rfl⟩ := key i t v xs h
    exact World.ownsRow_nil u A t 1
  · obtain ⟨rfl, rfl⟩ := key i t v xs h
    simp [Value.ownBlock] at hb
section
variable (bs rows : List (Value × List Int)) (nx : Value × List Value) (fo en : Value × List Nat)
theorem fm_nx (v : Value) (xs : List Value) : upd (fm bs rows nx fo en) 4 (41, v, xs) = fm bs rows (v, xs) fo en := by
  funext i
  unfold upd fm
  by_cases e : i = 4
  · subst e; simp
  · simp [e]
theorem fm_fo (v : Value) (xs : List Nat) : upd (fm bs rows nx fo en) 5 (27, v, u32s xs) = fm bs rows nx (v, xs) en := by
  funext i
  unfold upd fm
  by_cases e : i = 5
  · subst e; simp
  · simp [e]
theorem fm_en (v : Value) (xs : List Nat) : upd (fm bs rows nx fo en) 6 (27, v, u32s xs) = fm bs rows nx fo (v, xs) := by
  funext i
  unfold upd fm
  by_cases e : i = 6
  · subst e; simp
  · simp [e]
theorem fm_more (v : Value) (r : List Int) : upd (fm bs rows nx fo en) (7 + rows.length) (3, v, ints r) = fm bs (rows ++ [(v, r)]) nx fo en := by
  funext i
  unfold upd fm
  by_cases e : i = 7 + rows.length
  · subst e
    rw [if_pos rfl, if_neg (by omega), if_neg (by omega), if_neg (by omega), if_neg (by omega), show 7 + rows.length - 7 = rows.length by omega]
    simp
  · rw [if_neg e]
    by_cases h7 : i < 7
    · have h5 : ¬ i < 4 → i = 4 ∨ i = 5 ∨ i = 6 := by omega
      by_cases h4 : i < 4
      · simp [h4]
      · rcases h5 h4 with rfl | rfl | rfl <;> simp
    · rw [if_neg (by omega), if_neg (by omega), if_neg (by omega), if_neg (by omega), if_neg (by omega), if_neg (by omega), if_neg (by omega), if_neg (by omega)]
      by_cases hl : i - 7 < rows.length
      · rw [List.getElem?_append_left hl]
      · rw [List.getElem?_append_right (by omega), List.getElem?_eq_none (by omega), List.getElem?_eq_none (by simp; omega)]
theorem fm_row {k : Nat} (hk : k < rows.length) (v : Value) (r : List Int) : upd (fm bs rows nx fo en) (7 + k) (3, v, ints r) = fm bs (rows.set k (v, r)) nx fo en := by
  funext i
  unfold upd fm
  by_cases e : i = 7 + k
  · subst e
    rw [if_pos rfl, if_neg (by omega), if_neg (by omega), if_neg (by omega), if_neg (by omega), show 7 + k - 7 = k by omega]
    simp [hk]
  · rw [if_neg e]
    by_cases h7 : i < 7
    · have h5 : ¬ i < 4 → i = 4 ∨ i = 5 ∨ i = 6 := by omega
      by_cases h4 : i < 4
      · simp [h4]
      · rcases h5 h4 with rfl | rfl | rfl <;> simp
    · rw [if_neg (by omega), if_neg (by omega), if_neg (by omega), if_neg (by omega), if_neg (by omega), if_neg (by omega), if_neg (by omega), if_neg (by omega), List.getElem?_set_ne (by omega)]
theorem fm_byte {k : Nat} (hk : k < bs.length) (h4 : k < 4) (v : Value) (r : List Int) : upd (fm bs rows nx fo en) k (5, v, cellsOf r) = fm (bs.set k (v, r)) rows nx fo en := by
  funext i
  unfold upd fm
  by_cases e : i = k
  · subst e
    rw [if_pos rfl, if_pos h4]
    simp [hk]
  · rw [if_neg e]
    by_cases hi : i < 4
    · rw [if_pos hi, if_pos hi, List.getElem?_set_ne (Ne.symm e)]
    · rw [if_neg hi, if_neg hi]
theorem fm_bytes (h4 : bs.length < 4) (v : Value) (r : List Int) : upd (fm bs rows nx fo en) bs.length (5, v, cellsOf r) = fm (bs ++ [(v, r)]) rows nx fo en := by
  funext i
  unfold upd fm
  by_cases e : i = bs.length
  · subst e
    rw [if_pos rfl, if_pos h4]
    simp
  · rw [if_neg e]
    by_cases hi : i < 4
    · rw [if_pos hi, if_pos hi]
      by_cases hl : i < bs.length
      · rw [List.getElem?_append_left hl]
      · rw [List.getElem?_append_right (by omega), List.getElem?_eq_none (by omega), List.getElem?_eq_none (by simp; omega)]
    · rw [if_neg hi, if_neg hi]
theorem fm_at4 : fm bs rows nx fo en 4 = some (41, nx.1, nx.2) := by simp [fm]
theorem fm_at5 : fm bs rows nx fo en 5 = some (27, fo.1, u32s fo.2) := by simp [fm]
theorem fm_at6 : fm bs rows nx fo en 6 = some (27, en.1, u32s en.2) := by simp [fm]
theorem fm_at7 (k : Nat) : fm bs rows nx fo en (7 + k) = rows[k]?.map fun p => (3, p.1, ints p.2) := by
  unfold fm
  rw [if_neg (by omega), if_neg (by omega), if_neg (by omega), if_neg (by omega), show 7 + k - 7 = k by omega]
theorem fm_at0 {k : Nat} (h : k < 4) : fm bs rows nx fo en k = bs[k]?.map fun p => (5, p.1, cellsOf p.2) := by
  unfold fm
  rw [if_pos h]
end
theorem upd_upd (F : Nat → Option Rw) (i : Nat) (r r' : Rw) : upd (upd F i r) i r' = upd F i r' := by
  funext j
  unfold upd
  by_cases e : j = i <;> simp [e]
/-- a slice with one place less -/
def cutv : Value → Value
  | .slice a n c => .slice a (n - 1) c
  | v => v
structure Cq (w2 u : World) (d : Dt) (s : Nat) (rows : List (Value × List Int)) (nx : Value) : Prop where
  fam : Fam w2.heap.size u (fm [] rows (nx, rows.map fun p => cutv p.1) (nilS, []) (nilS, []))
  low : Below w2.heap.size w2 u
  len : rows.length = s
  row : ∀ (t : Nat) (p : Value × List Int), rows[t]? = some p → p.2 = d.row t ++ [-77]
  nn : ∀ p ∈ rows, p.1 ≠ .slice none 0 0
theorem own_form {u : World} {base : Nat} {t : TypeId} {V : Value} {k : Nat} {xs : List Value} (hr : u.ownsRow base t 1 V k xs) (hn : V ≠ .slice none 0 0) : ∃ g c, V = .slice (some ⟨g, 0, none⟩) k c ∧ base ≤ g ∧ k ≤ c ∧ c ≤ 9223372036854775807 := by
  rcases hr.2 with ⟨e, _⟩ | ⟨g, cap, cur, e, hb, _, h1, h2, _⟩
  · exact absurd e hn
  · exact ⟨g, cap, e, hb, h1, by simp only [maxLen] at h2; omega⟩
theorem Fam.lower {A B : Nat} {u : World} {F : Nat → Option Rw} (h : Fam A u F) (hb : B ≤ A) : Fam B u F :=
  ⟨fun i t v xs hi => ⟨(h.own i t v xs hi).1, by
    rcases (h.own i t v xs hi).2 with h2 | ⟨g, cap, cur, hv, hBg, rest⟩
    · exact .inl h2
    · exact .inr ⟨g, cap, cur, hv, by omega, rest⟩⟩, h.inj⟩
/-- WHAT copied LEAVES. -/
structure Cpy (A : Nat) (u : World) (d : Dt) (bs rows : List (Value × List Int)) (V1 V2 V3 M : Value) : Prop where
  fam : Fam A u (fm bs rows (V1, (rows.map fun p => cutv p.1) ++ [M]) (V2, d.fo ++ [77]) (V3, d.en ++ [77]))
  len : rows.length = d.S
  row : ∀ (t : Nat) (p : Value × List Int), rows[t]? = some p → p.2 = d.row t ++ [-77]
  nn : ∀ p ∈ rows, p.1 ≠ .slice none 0 0
  n1 : V1 ≠ .slice none 0 0
  n2 : V2 ≠ .slice none 0 0
  n3 : V3 ≠ .slice none 0 0
  m : ∃ h c, M = .slice (some h) 1 c
def CopPost (w : World) (d : Dt) (v : Value) (w' : World) : Prop := (∃ rows V1 V2 V3 M, v = .agg (dv d.cl (cutv V1) (cutv V2) (cutv V3)) ∧ Cpy w.heap.size w' d [] rows V1 V2 V3 M) ∧ Below w.heap.size w w'
theorem lat_lit' (w : World) {m : Nat} (hm : m = w.heap.size) (v : Value) (t : TypeId) (fr : Nat × Nat) : LAt (w.alloc (.cells #[v] t fr)) (.slice (some ⟨m, 0, none⟩) 1 1) [v] := by
  subst hm
  exact lat_lit w v t fr
theorem u32s_snoc (l : List Nat) (x : Nat) : u32s l ++ [Value.int .u32 (x : Nat)] = u32s (l ++ [x]) := by simp [u32s]
section
variable {o : Oper} {a : Act} {w : World} {r : Value → World → Prop} {Q : Exit → Act → World → Prop}
theorem ob_load_cls {p A k : Nat} {f : Nat → Int} (ho : o.op = .load 22 (.tmp p)) (hp : T a p = .pointer (some ⟨A, k, none⟩)) (h : ∀ i, i < 256 → w.cell? ⟨A, k + i, none⟩ = some (.int .i64 (f i))) (hr : r (.agg (cv f)) w) : o.wp Tryd.prog a w (Leaves r o a w) Q :=
  wp_load_cls (.tmp p) ho h (by simpa [Act.eval] using hp) ⟨_, rfl, Below.refl _ _, hr⟩
set_option maxRecDepth 20000 in
theorem built4 (f : Nat → Int) (a1 a2 a3 : Option Addr) (n1 c1 n2 c2 n3 c3 : Nat) (w : World) : (Instr.build 26 #[(0, .agg (cv f)), (1, .slice a1 n1 c1), (2, .slice a2 n2 c2), (3, .slice a3 n3 c3)]).run Tryd.prog w = .ok (.agg (dv f (.slice a1 n1 c1) (.slice a2 n2 c2) (.slice a3 n3 c3))) w := run_build w _ _ _ (by kernel_rfl)
theorem ob_build4 {p q s t : Nat} {f : Nat → Int} {a1 a2 a3 : Option Addr} {n1 c1 n2 c2 n3 c3 : Nat} (ho : o.op = .build 26 #[(0, .tmp p), (1, .tmp q), (2, .tmp s), (3, .tmp t)]) (hp : T a p = .agg (cv f)) (hq : T a q = .slice a1 n1 c1) (hs : T a s = .slice a2 n2 c2) (ht : T a t = .slice a3 n3 c3) (hr : r (.agg (dv f (.slice a1 n1 c1) (.slice a2 n2 c2) (.slice a3 n3 c3))) w) : o.wp Tryd.prog a w (Leaves r o a w) Q := by
  obtain ⟨dst, op, type, pos, after, guard⟩ := o
  simp only at ho
  subst ho
  refine ob_value (w' := w) ?_ (Below.refl _ _) hr
  have e : ∀ k, a.eval (.tmp k) = T a k := fun k => by simp [Act.eval]
  simp only [execOp, List.map_toArray, List.map_cons, List.map_nil, e, hp, hq, hs, ht, Sem.run_bind, built4]
  rfl
end
def RC17 (D : Nat) (f : Nat → Int) (S : Nat) (nf : Nat) (ne : Nat) (a1 : Option Addr) (a2 : Option Addr) (a3 : Option Addr) (c1 : Nat) (c2 : Nat) (c3 : Nat) (gn : Nat) (cn : Nat) (gf : Nat) (cf : Nat) (ge : Nat) (ce : Nat) : Nat → Value → World → Prop
  | 0, v, _ => v = .pointer (some ⟨D, 0, none⟩)
  | 1, v, _ => v = .agg (cv f)
  | 2, v, _ => v = .slice (some ⟨gn, 0, none⟩) (S + 1) cn
  | 3, v, _ => v = .pointer (some ⟨D, 256, none⟩)
  | 4, v, _ => v = .slice a1 S c1
  | 5, v, _ => v = .int .i64 (S : Nat)
  | 6, v, _ => v = .slice (some ⟨gn, 0, none⟩) S cn
  | 7, v, _ => v = .slice (some ⟨gf, 0, none⟩) (nf + 1) cf
  | 8, v, _ => v = .pointer (some ⟨D, 257, none⟩)
  | 9, v, _ => v = .slice a2 nf c2
  | 10, v, _ => v = .int .i64 (nf : Nat)
  | 11, v, _ => v = .slice (some ⟨gf, 0, none⟩) nf cf
  | 12, v, _ => v = .slice (some ⟨ge, 0, none⟩) (ne + 1) ce
  | 13, v, _ => v = .pointer (some ⟨D, 258, none⟩)
  | 14, v, _ => v = .slice a3 ne c3
  | 15, v, _ => v = .int .i64 (ne : Nat)
  | 16, v, _ => v = .slice (some ⟨ge, 0, none⟩) ne ce
  | 17, v, _ => v = .agg (dv f (.slice (some ⟨gn, 0, none⟩) S cn) (.slice (some ⟨gf, 0, none⟩) nf cf) (.slice (some ⟨ge, 0, none⟩) ne ce))
  | _, _, _ => True
def FC17 (D : Nat) (S : Nat) (nf : Nat) (ne : Nat) (gn : Nat) (cn : Nat) (gf : Nat) (cf : Nat) (ge : Nat) (ce : Nat) (x : Act) : Prop := x.tmps.size = 72 ∧ x.defers = [] ∧ T x 1 = .pointer (some ⟨D, 0, none⟩) ∧ T x 2 = .pointer (some ⟨D + 1, 0, none⟩) ∧ T x 3 = .slice (some ⟨gn, 0, none⟩) (S + 1) cn ∧ T x 6 = .slice (some ⟨gf, 0, none⟩) (nf + 1) cf ∧ T x 7 = .slice (some ⟨ge, 0, none⟩) (ne + 1) ce
def DC17 : Nat → Nat | 0 => 54 | 1 => 55 | 2 => 56 | 3 => 57 | 4 => 58 | 5 => 59 | 6 => 60 | 7 => 61 | 8 => 62 | 9 => 63 | 10 => 64 | 11 => 65 | 12 => 66 | 13 => 67 | 14 => 68 | 15 => 69 | 16 => 70 | 17 => 71 | _ => 72
theorem upC17 (D : Nat) (f : Nat → Int) (S : Nat) (nf : Nat) (ne : Nat) (a1 : Option Addr) (a2 : Option Addr) (a3 : Option Addr) (c1 : Nat) (c2 : Nat) (c3 : Nat) (gn : Nat) (cn : Nat) (gf : Nat) (cf : Nat) (ge : Nat) (ce : Nat) (i : Nat) (v : Value) (w w' : World) (h : RC17 D f S nf ne a1 a2 a3 c1 c2 c3 gn cn gf cf ge ce i v w) (_hb : Below w.heap.size w w') : RC17 D f S nf ne a1 a2 a3 c1 c2 c3 gn cn gf cf ge ce i v w' := by
  unfold RC17 at h ⊢
  split at h <;> first | exact h | exact trivial
theorem dC17_lt {i : Nat} (h : i < 18) : DC17 i < 72 := by
  have : ∀ i, i < 18 → DC17 i < 72 := by decide
  exact this i h
theorem dC17_inj {i j : Nat} (hi : i < 18) (hj : j < 18) (h : DC17 i = DC17 j) : i = j := by
  have : ∀ i, i < 18 → ∀ j, j < 18 → DC17 i = DC17 j → i = j := by decide
  exact this i hi j hj h
theorem fC17_put (D : Nat) (S : Nat) (nf : Nat) (ne : Nat) (gn : Nat) (cn : Nat) (gf : Nat) (cf : Nat) (ge : Nat) (ce : Nat) {x : Act} {i : Nat} (v : Value) (hi : i < 18) (h : FC17 D S nf ne gn cn gf cf ge ce x) : FC17 D S nf ne gn cn gf cf ge ce (x.put (some (DC17 i)) v) := by
  have hd : ∀ i, i < 18 → DC17 i ≠ 1 ∧ DC17 i ≠ 2 ∧ DC17 i ≠ 3 ∧ DC17 i ≠ 6 ∧ DC17 i ≠ 7 := by decide
  have hd := hd i hi
  obtain ⟨z, df, h0, h1, h2, h3, h4⟩ := h
  refine ⟨by simpa [Act.put] using z, df, ?_, ?_, ?_, ?_, ?_⟩
  · unfold T; rw [put_other hd.1]; exact h0
  · unfold T; rw [put_other hd.2.1]; exact h1
  · unfold T; rw [put_other hd.2.2.1]; exact h2
  · unfold T; rw [put_other hd.2.2.2.1]; exact h3
  · unfold T; rw [put_other hd.2.2.2.2]; exact h4
set_option maxRecDepth 100000 in
set_option maxHeartbeats 4000000 in
theorem regC17 (D : Nat) (f : Nat → Int) (S : Nat) (nf : Nat) (ne : Nat) (a1 : Option Addr) (a2 : Option Addr) (a3 : Option Addr) (c1 : Nat) (c2 : Nat) (c3 : Nat) (gn : Nat) (cn : Nat) (gf : Nat) (cf : Nat) (ge : Nat) (ce : Nat) {act : Act} {w0 : World} {Q : Exit → Act → World → Prop}  (hD : DB w0 D f (.slice a1 S c1) (.slice a2 nf c2) (.slice a3 ne c3)) (hD2 : DB w0 (D + 1) (fun _ => 0) nilV nilV nilV) (hcn : S + 1 ≤ cn) (hcf : nf + 1 ≤ cf) (hce : ne + 1 ≤ ce) (hFr : FC17 D S nf ne gn cn gf cf ge ce act)
    (K : ∀ act' w', FC17 D S nf ne gn cn gf cf ge ce act' → Below w0.heap.size w0 w' → Q .normal act' (w'.setRow (D + 1) (dv f (.slice (some ⟨gn, 0, none⟩) S cn) (.slice (some ⟨gf, 0, none⟩) nf cf) (.slice (some ⟨ge, 0, none⟩) ne ce)))) : (Code.region 17 (opsOf Tryd.f15 17) true).wp Tryd.prog Q act w0 := by
  have hnn : (opsOf Tryd.f15 17).size = 19 := by kernel_rfl
  refine wp_region_last (by kernel_rfl) 18 hnn DC17 (RC17 D f S nf ne a1 a2 a3 c1 c2 c3 gn cn gf cf ge ce) (FC17 D S nf ne gn cn gf cf ge ce) (upC17 D f S nf ne a1 a2 a3 c1 c2 c3 gn cn gf cf ge ce) (fun _ i v hi h => fC17_put D S nf ne gn cn gf cf ge ce v (by omega) h) (fun _ i hi h => by have h1 := h.1; have h2 := dC17_lt (i := i) (by omega); omega) (fun i j hi hj h => dC17_inj (by omega) (by omega) h) (by kernel_rfl) ?_ hFr
  refine ⟨⟨fun _ => ⟨rfl, duty_free rfl (by simp) rfl (fun act w hF _ _ _ => by have f1 : T act 1 = .pointer (some ⟨D, 0, none⟩) := hF.2.2.1; exact ob_value (v := .pointer (some ⟨D, 0, none⟩)) (w' := w) (by simp [execOp, Act.eval, go_sem, f1]) (Below.refl _ _) rfl)⟩, fun h => absurd h (by omega)⟩, ?_⟩
  refine ⟨⟨fun _ => ⟨rfl, duty_free rfl (by simp) rfl (fun act w _ hB hE _ => by have h0 : T act 54 = .pointer (some ⟨D, 0, none⟩) := hE ⟨0, .data⟩ (by simp) rfl; exact ob_load_cls rfl h0 (fun i hi => by rw [Nat.zero_add]; exact (hD.later hB).lo hi) rfl)⟩, fun h => absurd h (by omega)⟩, ?_⟩
  refine ⟨⟨fun _ => ⟨rfl, duty_free rfl (by simp) rfl (fun act w hF _ _ _ => by have f3 : T act 3 = .slice (some ⟨gn, 0, none⟩) (S + 1) cn := hF.2.2.2.2.1; exact ob_value (v := .slice (some ⟨gn, 0, none⟩) (S + 1) cn) (w' := w) (by simp [execOp, Act.eval, go_sem, f3]) (Below.refl _ _) rfl)⟩, fun h => absurd h (by omega)⟩, ?_⟩
  refine ⟨⟨fun _ => ⟨rfl, duty_free rfl (by simp) rfl (fun act w hF _ _ _ => by have f1 : T act 1 = .pointer (some ⟨D, 0, none⟩) := hF.2.2.1; exact ob_value (v := .pointer (some ⟨D, 256, none⟩)) (w' := w) (by simp [execOp, Act.eval, go_sem, f1]) (Below.refl _ _) rfl)⟩, fun h => absurd h (by omega)⟩, ?_⟩
  refine ⟨⟨fun _ => ⟨rfl, duty_free rfl (by simp) rfl (fun act w _ hB hE _ => by have h3 : T act 57 = .pointer (some ⟨D, 256, none⟩) := hE ⟨3, .data⟩ (by simp) rfl; exact ob_value (v := .slice a1 S c1) (w' := w) (by simp [execOp, Act.eval, go_sem, h3, (hD.later hB).hi.1]) (Below.refl _ _) rfl)⟩, fun h => absurd h (by omega)⟩, ?_⟩
  refine ⟨⟨fun _ => ⟨rfl, duty_free rfl (by simp) rfl (fun act w _ _ hE _ => by have h4 : T act 58 = .slice a1 S c1 := hE ⟨4, .data⟩ (by simp) rfl; exact ob_value (v := .int .i64 (S : Nat)) (w' := w) (by simp [Act.eval, go_sem, h4]) (Below.refl _ _) rfl)⟩, fun h => absurd h (by omega)⟩, ?_⟩
  refine ⟨⟨fun _ => ⟨rfl, duty_free rfl (by simp) rfl (fun act w _ _ hE _ => by have h2 : T act 56 = .slice (some ⟨gn, 0, none⟩) (S + 1) cn := hE ⟨2, .data⟩ (by simp) rfl; have h5 : T act 59 = .int .i64 (S : Nat) := hE ⟨5, .data⟩ (by simp) rfl; exact ob_value (v := .slice (some ⟨gn, 0, none⟩) S cn) (w' := w) (by simp [execOp, Act.eval, go_sem, h2, h5]; omega) (Below.refl _ _) rfl)⟩, fun h => absurd h (by omega)⟩, ?_⟩
  refine ⟨⟨fun _ => ⟨rfl, duty_free rfl (by simp) rfl (fun act w hF _ _ _ => by have f6 : T act 6 = .slice (some ⟨gf, 0, none⟩) (nf + 1) cf := hF.2.2.2.2.2.1; exact ob_value (v := .slice (some ⟨gf, 0, none⟩) (nf + 1) cf) (w' := w) (by simp [execOp, Act.eval, go_sem, f6]) (Below.refl _ _) rfl)⟩, fun h => absurd h (by omega)⟩, ?_⟩
  refine ⟨⟨fun _ => ⟨rfl, duty_free rfl (by simp) rfl (fun act w hF _ _ _ => by have f1 : T act 1 = .pointer (some ⟨D, 0, none⟩) := hF.2.2.1; exact ob_value (v := .pointer (some ⟨D, 257, none⟩)) (w' := w) (by simp [execOp, Act.eval, go_sem, f1]) (Below.refl _ _) rfl)⟩, fun h => absurd h (by omega)⟩, ?_⟩
  refine ⟨⟨fun _ => ⟨rfl, duty_free rfl (by simp) rfl (fun act w _ hB hE _ => by have h8 : T act 62 = .pointer (some ⟨D, 257, none⟩) := hE ⟨8, .data⟩ (by simp) rfl; exact ob_value (v := .slice a2 nf c2) (w' := w) (by simp [execOp, Act.eval, go_sem, h8, (hD.later hB).hi.2.1]) (Below.refl _ _) rfl)⟩, fun h => absurd h (by omega)⟩, ?_⟩
  refine ⟨⟨fun _ => ⟨rfl, duty_free rfl (by simp) rfl (fun act w _ _ hE _ => by have h9 : T act 63 = .slice a2 nf c2 := hE ⟨9, .data⟩ (by simp) rfl; exact ob_value (v := .int .i64 (nf : Nat)) (w' := w) (by simp [Act.eval, go_sem, h9]) (Below.refl _ _) rfl)⟩, fun h => absurd h (by omega)⟩, ?_⟩
  refine ⟨⟨fun _ => ⟨rfl, duty_free rfl (by simp) rfl (fun act w _ _ hE _ => by have h7 : T act 61 = .slice (some ⟨gf, 0, none⟩) (nf + 1) cf := hE ⟨7, .data⟩ (by simp) rfl; have h10 : T act 64 = .int .i64 (nf : Nat) := hE ⟨10, .data⟩ (by simp) rfl; exact ob_value (v := .slice (some ⟨gf, 0, none⟩) nf cf) (w' := w) (by simp [execOp, Act.eval, go_sem, h7, h10]; omega) (Below.refl _ _) rfl)⟩, fun h => absurd h (by omega)⟩, ?_⟩
  refine ⟨⟨fun _ => ⟨rfl, duty_free rfl (by simp) rfl (fun act w hF _ _ _ => by have f7 : T act 7 = .slice (some ⟨ge, 0, none⟩) (ne + 1) ce := hF.2.2.2.2.2.2; exact ob_value (v := .slice (some ⟨ge, 0, none⟩) (ne + 1) ce) (w' := w) (by simp [execOp, Act.eval, go_sem, f7]) (Below.refl _ _) rfl)⟩, fun h => absurd h (by omega)⟩, ?_⟩
  refine ⟨⟨fun _ => ⟨rfl, duty_free rfl (by simp) rfl (fun act w hF _ _ _ => by have f1 : T act 1 = .pointer (some ⟨D, 0, none⟩) := hF.2.2.1; exact ob_value (v := .pointer (some ⟨D, 258, none⟩)) (w' := w) (by simp [execOp, Act.eval, go_sem, f1]) (Below.refl _ _) rfl)⟩, fun h => absurd h (by omega)⟩, ?_⟩
  refine ⟨⟨fun _ => ⟨rfl, duty_free rfl (by simp) rfl (fun act w _ hB hE _ => by have h13 : T act 67 = .pointer (some ⟨D, 258, none⟩) := hE ⟨13, .data⟩ (by simp) rfl; exact ob_value (v := .slice a3 ne c3) (w' := w) (by simp [execOp, Act.eval, go_sem, h13, (hD.later hB).hi.2.2]) (Below.refl _ _) rfl)⟩, fun h => absurd h (by omega)⟩, ?_⟩
  refine ⟨⟨fun _ => ⟨rfl, duty_free rfl (by simp) rfl (fun act w _ _ hE _ => by have h14 : T act 68 = .slice a3 ne c3 := hE ⟨14, .data⟩ (by simp) rfl; exact ob_value (v := .int .i64 (ne : Nat)) (w' := w) (by simp [Act.eval, go_sem, h14]) (Below.refl _ _) rfl)⟩, fun h => absurd h (by omega)⟩, ?_⟩
  refine ⟨⟨fun _ => ⟨rfl, duty_free rfl (by simp) rfl (fun act w _ _ hE _ => by have h12 : T act 66 = .slice (some ⟨ge, 0, none⟩) (ne + 1) ce := hE ⟨12, .data⟩ (by simp) rfl; have h15 : T act 69 = .int .i64 (ne : Nat) := hE ⟨15, .data⟩ (by simp) rfl; exact ob_value (v := .slice (some ⟨ge, 0, none⟩) ne ce) (w' := w) (by simp [execOp, Act.eval, go_sem, h12, h15]; omega) (Below.refl _ _) rfl)⟩, fun h => absurd h (by omega)⟩, ?_⟩
  refine ⟨⟨fun _ => ⟨rfl, duty_free rfl (by simp) rfl (fun act w _ _ hE _ => by have h1 : T act 55 = .agg (cv f) := hE ⟨1, .data⟩ (by simp) rfl; have h6 : T act 60 = .slice (some ⟨gn, 0, none⟩) S cn := hE ⟨6, .data⟩ (by simp) rfl; have h11 : T act 65 = .slice (some ⟨gf, 0, none⟩) nf cf := hE ⟨11, .data⟩ (by simp) rfl; have h16 : T act 70 = .slice (some ⟨ge, 0, none⟩) ne ce := hE ⟨16, .data⟩ (by simp) rfl; exact ob_build4 rfl h1 h6 h11 h16 rfl)⟩, fun h => absurd h (by omega)⟩, ?_⟩
  refine ⟨⟨fun h => absurd h (by omega), fun _ => ⟨rfl, by simp, fun act w hF hB hR => ?_⟩⟩, trivial⟩
  have t2 : T act 2 = .pointer (some ⟨D + 1, 0, none⟩) := hF.2.2.2.1
  have t71 : T act 71 = .agg (dv f (.slice (some ⟨gn, 0, none⟩) S cn) (.slice (some ⟨gf, 0, none⟩) nf cf) (.slice (some ⟨ge, 0, none⟩) ne ce)) := hR 17 (by omega)
  refine wp_store_row _ (.tmp 2) (.tmp 71) rfl (D + 1) (dv f (.slice (some ⟨gn, 0, none⟩) S cn) (.slice (some ⟨gf, 0, none⟩) nf cf) (.slice (some ⟨ge, 0, none⟩) ne ce)) (by simpa [Act.eval] using t2) (by simpa [Act.eval] using t71) _ _ (hD2.later hB) (by rw [dv_size]; exact sizeD) (by rw [dv_size, dv_size]) (dv_one f ⟨rfl, rfl, rfl⟩) (K act w hF hB)
set_option maxRecDepth 20000 in
set_option maxHeartbeats 16000000 in
theorem copied_any (d : Dt) (V1 V2 V3 : Value) (Us : List Value) (w : World) (hd : DfAt w d V1 V2 V3 Us) (hbS : d.S ≤ 1048576) (hbR : ∀ s, (d.row s).length ≤ 1048576) (hbF : d.fo.length ≤ 1048576) (hbE : d.en.length ≤ 1048576) :
    Calls Tryd.prog 15 #[.agg (dv d.cl V1 V2 V3)] w fun e w' => ∃ v, e = .returned v ∧ CopPost w d v w' := by
  obtain ⟨a1, c1, a2, c2, a3, c3, e1, e2, e3, l1, m1, l2, m2, l3, m3⟩ := hd.forms
  obtain ⟨w1, hw1⟩ : ∃ w1, w.alloc (.cells (dv d.cl V1 V2 V3) 26) = w1 := ⟨_, rfl⟩
  obtain ⟨w2, hw2⟩ : ∃ w2, w1.alloc (.cells (dv (fun _ => 0) nilV nilV nilV) 26) = w2 := ⟨_, rfl⟩
  obtain ⟨D, hD⟩ : ∃ D, w.heap.size = D := ⟨_, rfl⟩
  have z1 : w1.heap.size = D + 1 := by rw [← hw1, ← hD]; simp
  have k1 : Below w.heap.size w w1 := by rw [← hw1]; exact (Below.refl _ _).alloc (Nat.le_refl _) _
  have k2 : Below w1.heap.size w1 w2 := by rw [← hw2]; exact (Below.refl _ _).alloc (Nat.le_refl _) _
  have dd1 : DB w1 D d.cl V1 V2 V3 := by rw [← hw1, ← hD]; exact db_new w _ _ _ _
  have dd2 : DB w2 (D + 1) (fun _ => 0) nilV nilV nilV := by rw [← hw2, ← z1]; exact db_new w1 _ _ _ _
  have HD1 : Hid (DB w2 D d.cl V1 V2 V3) := dd1.later k2
  have HD2 : Hid (DB w2 (D + 1) (fun _ => 0) nilV nilV nilV) := dd2
  have HT : Hid (DfAt w2 d V1 V2 V3 Us) := (hd.later k1).later k2
  have HK2 : Hid (Below w.heap.size w w2) := below_step k1 k2
  have HW : Hid ((w.alloc (.cells (dv d.cl V1 V2 V3) 26)).alloc (.cells (dv (fun _ => 0) nilV nilV nilV) 26) = w2) := by rw [hw1]; exact hw2
  have HDD : Hid (w.heap.size = D) := hD
  have HE1 : Hid (V1 = .slice a1 d.S c1) := e1
  have HE2 : Hid (V2 = .slice a2 d.fo.length c2) := e2
  have HE3 : Hid (V3 = .slice a3 d.en.length c3) := e3
  obtain ⟨S, hS⟩ : ∃ S, d.S = S := ⟨_, rfl⟩
  have HSS : Hid (d.S = S) := hS
  rw [hS] at l1 hbS
  have HBR : Hid (∀ s, (d.row s).length ≤ 1048576) := hbR
  have hz := zeroDfa
  clear hw1 hw2 hD z1 k1 k2 dd1 dd2 hd e1 e2 e3 hS hbR
  go_enter Tryd.func15, Tryd.ntmps15
  go_upto_region 1 with fail
  rw [HW.out, HDD.out]
  clear HW hz
  have q1 := HD1.out.hi.1
  rw [HE1.out, HSS.out] at q1
  go_wp2_with fail
  go_loopw [3, 11] (fun nx i u => ∃ (s : Nat) (rows : List (Value × List Int)), i = .int .i64 (s : Nat) ∧ s ≤ S ∧ Hid (Cq w2 u d s rows nx)) (fun _ i _ => S - (intOf i).toNat)
  case atStart => exact ⟨0, [], rfl, by omega, fam_none _ _, Below.refl _ _, rfl, fun t p h => by simp at h, fun p h => by simp at h⟩
  case round =>
    obtain ⟨s, rows, rfl, hsn, HQ⟩ := hrel
    by_cases hlt : s < S
    · have hlt' : (s : Int) < (S : Int) := by omega
      obtain ⟨b1, o1, U, ha, hcU, hU⟩ := HT.out.rowAt (s := s) (by rw [HSS.out]; exact hlt) HE1.out
      obtain ⟨va, vc, rfl, lV, mV, -⟩ := hU.intAt
      have HLU : Hid (LAt w2 (.slice va (d.row s).length vc) (ints (d.row s))) := hU
      obtain ⟨L, hL⟩ : ∃ L, (d.row s).length = L := ⟨_, rfl⟩
      have HL : Hid ((d.row s).length = L) := hL
      have hLb : L ≤ 1048576 := by rw [← hL]; exact HBR.out s
      have HAA : Hid (a1 = some ⟨b1, o1, none⟩) := ha
      have hcU2 := cell_later HQ.out.low _ _ _ hcU
      have q1 := (HD1.out.later HQ.out.low).hi.1
      rw [HE1.out, HSS.out, ha] at q1
      rw [hL] at hcU2 lV HLU hcU
      have HCU : Hid (w2.cell? ⟨b1, o1 + s, none⟩ = some (.slice va L vc)) := hcU
      clear hL hcU hU ha
      go_upto_region 7 with (at_builtin; refine wpList_append_fam rfl (.tmp 14) (.tmp 19) rfl (.int .i64 0) 8 Tryd.underlying41 infI rfl w2 _ (HQ.out.fam.nil (7 + s) 3) HQ.out.low (7 + s) _ [] (upd_at _ _ _) rfl _ (ints (d.row s)) rfl (HLU.out.later HQ.out.low) (ints_one _) (by rw [ints_len, HL.out]; simp; omega) (by decide) ?_; intro l1v w3 hf3 hb3 hn3; rw [upd_upd, List.nil_append] at hf3)
      have HF3 : Hid (Fam w2.heap.size w3 (upd (fm [] rows (u3, rows.map fun p => cutv p.1) (nilS, []) (nilS, [])) (7 + s) (3, l1v, ints (d.row s)))) := hf3
      have HB3 : Hid (Below w2.heap.size w2 w3) := hb3
      clear hf3 hb3 hn3 hcU2 q1
      have HAL : Hid (∀ o : Obj, Below w3.heap.size w3 (w3.alloc o)) := fun o => (Below.refl _ _).alloc (Nat.le_refl _) _
      go_upto_region 8 with (at_builtin; refine wpList_append_fam rfl (.tmp 21) (.tmp 22) rfl (.int .i64 0) 8 Tryd.underlying41 infI rfl w2 _ (HF3.out.later (HAL.out _)) (below_step HB3.out (HAL.out _)) (7 + s) l1v (ints (d.row s)) (upd_at _ _ _) rfl _ [.int .i64 (-77)] rfl (lat_lit _ _ _ _) (fun u hu => by simp at hu; subst hu; rfl) (by rw [ints_len, HL.out]; simp; omega) (by decide) ?_; intro l2v w4 hf4 hb4 hn4; rw [upd_upd] at hf4)
      have hne : l2v ≠ .slice none 0 0 := fun e => by have := (hn4.1 e).2; simp at this
      have ho4 := hf4.own (7 + s) _ _ _ (upd_at _ _ _)
      obtain ⟨g, c, e4, hg4, hc4, hm4⟩ := own_form ho4 hne
      have hl4 : (ints (d.row s) ++ [Value.int .i64 (-77)]).length = L + 1 := by rw [List.length_append, ints_len, HL.out]; rfl
      rw [hl4] at e4 hc4
      have hint : ints (d.row s) ++ [Value.int .i64 (-77)] = ints (d.row s ++ [-77]) := by simp [ints]
      have em := fm_more [] rows (u3, rows.map fun p => cutv p.1) (nilS, []) (nilS, []) l2v (d.row s ++ [-77])
      rw [HQ.out.len] at em
      rw [hint, em] at hf4
      have HF4 : Hid (Fam w2.heap.size w4 (fm [] (rows ++ [(l2v, d.row s ++ [-77])]) (u3, rows.map fun p => cutv p.1) (nilS, []) (nilS, []))) := hf4
      have HB4 : Hid (Below w2.heap.size w2 w4) := hb4
      have HCV : Hid (cutv l2v = .slice (some ⟨g, 0, none⟩) L c) := by show _ = _; rw [e4]; rfl
      have HLV : Hid (l2v = .slice (some ⟨g, 0, none⟩) (L + 1) c) := e4
      rw [e4]
      clear hf4 hb4 hn4 hne ho4 e4 hl4 hint em HAL HF3 HB3 hg4
      have hcL : (L : Int) ≤ (c : Int) := by omega
      have hcU2 := cell_later HB4.out _ _ _ HCU.out
      have q1 := (HD1.out.later HB4.out).hi.1
      rw [HE1.out, HSS.out, HAA.out] at q1
      have HAL : Hid (∀ o : Obj, Below w4.heap.size w4 (w4.alloc o)) := fun o => (Below.refl _ _).alloc (Nat.le_refl _) _
      have HRL : Hid ((rows.map fun p => cutv p.1).length = s) := by show _ = _; rw [List.length_map]; exact HQ.out.len
      go_upto_region 9 with (at_builtin; refine wpList_append_fam rfl (.tmp 24) (.tmp 33) rfl (.slice none 0 0) 24 Tryd.underlying23 infR rfl w2 _ (HF4.out.later (HAL.out _)) (below_step HB4.out (HAL.out _)) 4 u3 (rows.map fun p => cutv p.1) (fm_at4 _ _ _ _ _) rfl _ [.slice (some ⟨g, 0, none⟩) L c] rfl (lat_lit _ _ _ _) (fun u hu => by simp at hu; subst hu; rfl) (by rw [HRL.out]; simp; omega) (by decide) ?_; intro nx5 w5 hf5 hb5 hn5; rw [fm_nx] at hf5)
      have HQ5 : Hid (Cq w2 w5 d (s + 1) (rows ++ [(l2v, d.row s ++ [-77])]) nx5) := by
        refine ⟨?_, hb5, by rw [List.length_append, HQ.out.len]; rfl, fun t p hp => ?_, fun p hp => ?_⟩
        · rw [List.map_append, List.map_cons, List.map_nil, HCV.out]
          exact hf5
        · by_cases ht : t < rows.length
          · rw [List.getElem?_append_left ht] at hp
            exact HQ.out.row t p hp
          · rw [List.getElem?_append_right (by omega)] at hp
            have ht0 : t - rows.length = 0 := by have := (List.getElem?_eq_some_iff.1 hp).1; simp at this; omega
            rw [ht0] at hp
            simp at hp
            subst hp
            have : t = s := by have := HQ.out.len; omega
            rw [this]
        · rcases List.mem_append.1 hp with h | h
          · exact HQ.out.nn p h
          · simp at h
            subst h
            rw [HLV.out]
            simp
      clear hf5 hb5 hn5 HF4 HB4 HAL hcU2 q1 HQ
      go_wp2
      go_roundw
      case rel => exact ⟨s + 1, _, by go_num, by omega, HQ5⟩
      case measure => simp [intOf]; omega
    · have hlt' : ¬ (s : Int) < (S : Int) := by omega
      have hse : s = S := by omega
      subst hse
      obtain ⟨nf, hnf⟩ : ∃ nf, d.fo.length = nf := ⟨_, rfl⟩
      obtain ⟨ne, hne⟩ : ∃ ne, d.en.length = ne := ⟨_, rfl⟩
      have HNF : Hid (d.fo.length = nf) := hnf
      have HNE : Hid (d.en.length = ne) := hne
      rw [hnf] at hbF l2
      rw [hne] at hbE l3
      clear hnf hne q1
      obtain ⟨m0, hm0⟩ : ∃ m0, wr.heap.size = m0 := ⟨_, rfl⟩
      have HM0 : Hid (wr.heap.size = m0) := hm0
      clear hm0
      have HAL : Hid (∀ o1 o2 : Obj, Below wr.heap.size wr ((wr.alloc o1).alloc o2)) := fun o1 o2 => ((Below.refl _ _).alloc (Nat.le_refl _) _).alloc (by simp) _
      have HRL : Hid ((rows.map fun p => cutv p.1).length = s) := by show _ = _; rw [List.length_map]; exact HQ.out.len
      go_upto_region 11 with (at_builtin; refine wpList_append_fam rfl (.tmp 36) (.tmp 38) rfl (.slice none 0 0) 24 Tryd.underlying23 infR rfl w2 _ (HQ.out.fam.later (HAL.out _ _)) (below_step HQ.out.low (HAL.out _ _)) 4 u3 (rows.map fun p => cutv p.1) (fm_at4 _ _ _ _ _) rfl _ [.slice (some ⟨wr.heap.size, 0, none⟩) 1 1] rfl (lat_lit' (wr.alloc (.cells #[.int .i64 (-77)] 3)) (by simp) _ _ _) (fun u hu => by simp at hu; subst hu; rfl) (by rw [HRL.out]; simp; omega) (by decide) ?_; intro nx5 w5 hf5 hb5 hn5; rw [fm_nx] at hf5)
      have hnn5 : nx5 ≠ .slice none 0 0 := fun e => by have := (hn5.1 e).2; simp at this
      have HF5 : Hid (Fam w2.heap.size w5 (fm [] rows (nx5, (rows.map fun p => cutv p.1) ++ [.slice (some ⟨wr.heap.size, 0, none⟩) 1 1]) (nilS, []) (nilS, []))) := hf5
      have HB5 : Hid (Below w2.heap.size w2 w5) := hb5
      have HN5 : Hid (nx5 ≠ .slice none 0 0) := hnn5
      clear hf5 hb5 hn5 hnn5 HAL
      have q2 := (HD1.out.later HB5.out).hi.2.1
      rw [HE2.out, HNF.out] at q2
      have HLF : Hid (LAt w5 (.slice a2 nf c2) (u32s d.fo)) := by have h := HT.out.fo.later HB5.out; rw [HE2.out, HNF.out] at h; exact h
      go_upto_region 13 with (at_builtin; refine wpList_append_fam rfl (.tmp 40) (.tmp 42) rfl (.int .u32 0) 4 Tryd.underlying24 infU rfl w2 _ HF5.out HB5.out 5 _ [] (fm_at5 _ _ _ _ _) rfl _ (u32s d.fo) rfl HLF.out (u32s_one _) (by rw [u32s_len, HNF.out]; simp; omega) (by decide) ?_; intro f6 w6 hf6 hb6 hn6; rw [List.nil_append, fm_fo] at hf6)
      have HF6 : Hid (Fam w2.heap.size w6 (fm [] rows (nx5, (rows.map fun p => cutv p.1) ++ [.slice (some ⟨wr.heap.size, 0, none⟩) 1 1]) (f6, d.fo) (nilS, []))) := hf6
      have HB6 : Hid (Below w2.heap.size w2 w6) := hb6
      clear hf6 hb6 hn6 q2 HF5 HB5 HLF
      have HAL : Hid (∀ o : Obj, Below w6.heap.size w6 (w6.alloc o)) := fun o => (Below.refl _ _).alloc (Nat.le_refl _) _
      go_upto_region 14 with (at_builtin; refine wpList_append_fam rfl (.tmp 44) (.tmp 45) rfl (.int .u32 0) 4 Tryd.underlying24 infU rfl w2 _ (HF6.out.later (HAL.out _)) (below_step HB6.out (HAL.out _)) 5 f6 (u32s d.fo) (fm_at5 _ _ _ _ _) rfl _ [.int .u32 ((77 : Nat) : Int)] rfl (lat_lit _ _ _ _) (fun u hu => by simp at hu; subst hu; rfl) (by rw [u32s_len, HNF.out]; simp; omega) (by decide) ?_; intro f7 w7 hf7 hb7 hn7; rw [u32s_snoc, fm_fo] at hf7)
      have hnn7 : f7 ≠ .slice none 0 0 := fun e => by have := (hn7.1 e).2; simp at this
      have HF7 : Hid (Fam w2.heap.size w7 (fm [] rows (nx5, (rows.map fun p => cutv p.1) ++ [.slice (some ⟨wr.heap.size, 0, none⟩) 1 1]) (f7, d.fo ++ [77]) (nilS, []))) := hf7
      have HB7 : Hid (Below w2.heap.size w2 w7) := hb7
      have HN7 : Hid (f7 ≠ .slice none 0 0) := hnn7
      clear hf7 hb7 hn7 hnn7 HAL HF6 HB6
      have q3 := (HD1.out.later HB7.out).hi.2.2
      rw [HE3.out, HNE.out] at q3
      have HLE : Hid (LAt w7 (.slice a3 ne c3) (u32s d.en)) := by have h := HT.out.en.later HB7.out; rw [HE3.out, HNE.out] at h; exact h
      go_upto_region 16 with (at_builtin; refine wpList_append_fam rfl (.tmp 47) (.tmp 49) rfl (.int .u32 0) 4 Tryd.underlying24 infU rfl w2 _ HF7.out HB7.out 6 _ [] (fm_at6 _ _ _ _ _) rfl _ (u32s d.en) rfl HLE.out (u32s_one _) (by rw [u32s_len, HNE.out]; simp; omega) (by decide) ?_; intro e8 w8 hf8 hb8 hn8; rw [List.nil_append, fm_en] at hf8)
      have HF8 : Hid (Fam w2.heap.size w8 (fm [] rows (nx5, (rows.map fun p => cutv p.1) ++ [.slice (some ⟨wr.heap.size, 0, none⟩) 1 1]) (f7, d.fo ++ [77]) (e8, d.en))) := hf8
      have HB8 : Hid (Below w2.heap.size w2 w8) := hb8
      clear hf8 hb8 hn8 q3 HF7 HB7 HLE
      have HAL : Hid (∀ o : Obj, Below w8.heap.size w8 (w8.alloc o)) := fun o => (Below.refl _ _).alloc (Nat.le_refl _) _
      go_upto_region 17 with (at_builtin; refine wpList_append_fam rfl (.tmp 51) (.tmp 52) rfl (.int .u32 0) 4 Tryd.underlying24 infU rfl w2 _ (HF8.out.later (HAL.out _)) (below_step HB8.out (HAL.out _)) 6 e8 (u32s d.en) (fm_at6 _ _ _ _ _) rfl _ [.int .u32 ((77 : Nat) : Int)] rfl (lat_lit _ _ _ _) (fun u hu => by simp at hu; subst hu; rfl) (by rw [u32s_len, HNE.out]; simp; omega) (by decide) ?_; intro e9 w9 hf9 hb9 hn9; rw [u32s_snoc, fm_en] at hf9)
      have hnn9 : e9 ≠ .slice none 0 0 := fun e => by have := (hn9.1 e).2; simp at this
      have HC : Hid (Cpy w2.heap.size w9 d [] rows nx5 f7 e9 (.slice (some ⟨wr.heap.size, 0, none⟩) 1 1)) := ⟨hf9, by rw [HSS.out]; exact HQ.out.len, HQ.out.row, HQ.out.nn, HN5.out, HN7.out, hnn9, ⟨_, _, rfl⟩⟩
      have HB9 : Hid (Below w2.heap.size w2 w9) := hb9
      clear hf9 hb9 hn9 hnn9 HAL HF8 HB8
      obtain ⟨gn, cn, en1, hgn, hcn, mcn⟩ := own_form (HC.out.fam.own 4 _ _ _ (fm_at4 _ _ _ _ _)) HC.out.n1
      obtain ⟨gf, cf, ef1, hgf, hcf, mcf⟩ := own_form (HC.out.fam.own 5 _ _ _ (fm_at5 _ _ _ _ _)) HC.out.n2
      obtain ⟨ge, ce, ee1, hge, hce, mce⟩ := own_form (HC.out.fam.own 6 _ _ _ (fm_at6 _ _ _ _ _)) HC.out.n3
      simp only at en1 ef1 ee1
      have t1 : ((rows.map fun p => cutv p.1) ++ [Value.slice (some ⟨wr.heap.size, 0, none⟩) 1 1]).length = s + 1 := by rw [List.length_append, HRL.out]; rfl
      have t2 : (u32s (d.fo ++ [77])).length = nf + 1 := by rw [u32s_len, List.length_append, HNF.out]; rfl
      have t3 : (u32s (d.en ++ [77])).length = ne + 1 := by rw [u32s_len, List.length_append, HNE.out]; rfl
      simp only [t1] at en1 hcn
      simp only [t2] at ef1 hcf
      simp only [t3] at ee1 hce
      clear t1 t2 t3
      have HD9 : Hid (DB w9 D d.cl (.slice a1 s c1) (.slice a2 nf c2) (.slice a3 ne c3)) := by
        have h := HD1.out.later HB9.out
        rw [HE1.out, HE2.out, HE3.out, HSS.out, HNF.out, HNE.out] at h
        exact h
      have HDR : Hid (DB w9 (D + 1) (fun _ => 0) nilV nilV nilV) := HD2.out.later HB9.out
      have HCUT : Hid (cutv nx5 = .slice (some ⟨gn, 0, none⟩) s cn ∧ cutv f7 = .slice (some ⟨gf, 0, none⟩) nf cf ∧ cutv e9 = .slice (some ⟨ge, 0, none⟩) ne ce) := by
        rw [en1, ef1, ee1]
        exact ⟨rfl, rfl, rfl⟩
      rw [en1, ef1, ee1]
      clear en1 ef1 ee1
      refine regC17 D d.cl s nf ne a1 a2 a3 c1 c2 c3 gn cn gf cf ge ce HD9.out HDR.out hcn hcf hce ⟨rfl, rfl, rfl, rfl, rfl, rfl, rfl⟩ ?_
      intro a9 w10 hF9 k10
      obtain ⟨w11, hw11⟩ : ∃ w11, w10.setRow (D + 1) (dv d.cl (.slice (some ⟨gn, 0, none⟩) s cn) (.slice (some ⟨gf, 0, none⟩) nf cf) (.slice (some ⟨ge, 0, none⟩) ne ce)) = w11 := ⟨_, rfl⟩
      have HRES : Hid (DB w11 (D + 1) d.cl (.slice (some ⟨gn, 0, none⟩) s cn) (.slice (some ⟨gf, 0, none⟩) nf cf) (.slice (some ⟨ge, 0, none⟩) ne ce)) := by rw [← hw11]; exact (HDR.out.later k10).row _ _ _ _
      have hDw : D + 1 < w2.heap.size := HD2.out.lt
      have HBE : Hid (Below w.heap.size w w11) := by
        rw [← hw11]
        exact below_row (below_step (below_step HK2.out HB9.out) k10) (by have := HDD.out; omega) _
      have HCE : Hid (Cpy w.heap.size w11 d [] rows nx5 f7 e9 (.slice (some ⟨wr.heap.size, 0, none⟩) 1 1)) := by
        have h := HC.out
        refine ⟨?_, h.len, h.row, h.nn, h.n1, h.n2, h.n3, h.m⟩
        refine ((h.fam.later k10).keep (v := w11) (fun i t x xs b hi hx => ?_)).lower HK2.out.size
        rw [← hw11]
        have := (own_at (h.fam.own i t x xs hi) b hx).1
        exact heap_row _ _ _ _ (by omega)
      rw [hw11]
      clear hw11
      have h2 : T a9 2 = .pointer (some ⟨D + 1, 0, none⟩) := hF9.2.2.2.1
      have hd9 := hF9.2.1
      go_wp2
      refine bodyPost_ret (results_dfa1 rfl _ _ HRES.out (by simpa using h2)) hd9 ⟨_, rfl, ⟨rows, nx5, f7, e9, _, ?_, HCE.out⟩, HBE.out⟩
      rw [HCUT.out.1, HCUT.out.2.1, HCUT.out.2.2]
end Go.Proofs.YtdngileimmgdnaaDoor
