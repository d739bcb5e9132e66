/- Lists that are written over and grown, all alike: a family of them, each block one owner's. -/
import Derived.Test.YtjmbimgofceanaaG18
import Derived.Deep.DeepAppendRoom
import Derived.Deep.Upon
import Derived.Test.YtjmbimgofceanaaG17
import Derived.Test.YtjmbimgofceanaaG05
import Derived.Test.YtjmbimgofceanaaG16
import Derived.Laws.IdiomArrays
import Derived.Lib.SmallJoins
import Derived.Deep.Slices
namespace Go.Proofs.Ytjmbimgofceanaa
open Go.RowKit

theorem heap_cells (g : Nat) : ∀ (vs : List Value) (o : Nat) (w : World) (cur : Array Value) (T : TypeId) (z : Nat × Nat), w.heap[g]? = some (.cells cur T z) → ∃ cur', (w.setCells g o vs).heap[g]? = some (.cells cur' T z) ∧ cur'.size = cur.size ∧ ∀ j, j < cur.size → cur'[j]? = if o ≤ j ∧ j < o + vs.length then vs[j - o]? else cur[j]?
  | [], o, w, cur, T, z, h => ⟨cur, h, rfl, fun j _ => by rw [if_neg (by simp only [List.length_nil]; omega)]⟩
  | v :: vs, o, w, cur, T, z, h => by
    obtain ⟨c', h1, h2, h3⟩ := heap_cells g vs (o + 1) (w.setCell ⟨g, o, none⟩ v) _ T z (heap_set h o v)
    rw [Array.size_setIfInBounds] at h2 h3
    refine ⟨c', h1, h2, fun j hj => ?_⟩
    rw [h3 j hj]
    by_cases e1 : o + 1 ≤ j ∧ j < o + 1 + vs.length
    · rw [if_pos e1, if_pos (by simp only [List.length_cons]; omega), show j - o = (j - (o + 1)) + 1 by omega, List.getElem?_cons_succ]
    · rw [if_neg e1]
      by_cases e2 : j = o
      · subst e2
        rw [if_pos (by simp only [List.length_cons]; omega), Nat.sub_self, List.getElem?_cons_zero, Array.getElem?_setIfInBounds_self, if_pos hj]
      · rw [if_neg (by simp only [List.length_cons]; omega), Array.getElem?_setIfInBounds_ne (by omega)]
theorem size_setCells' (b : Nat) : ∀ (vs : List Value) (o : Nat) (w : World), (w.setCells b o vs).heap.size = w.heap.size
  | [], _, _ => rfl
  | v :: vs, o, w => by rw [World.setCells, size_setCells' b vs]; simp
theorem tape_setCells (w : World) (b : Nat) (o : Nat) (vs : List Value) : (w.setCells b o vs).tape = w.tape := by
  induction vs generalizing o w with
  | nil => rfl
  | cons v vs ih => rw [World.setCells, ih]; rfl
/-- A LIST whose first elements are all alike (c: an element's cells). -/
def Alk (T : TypeId) (z : Nat) (u : World) (c : List Value) (m : Nat) (V : Value) : Prop :=
  (V = .slice none 0 0 ∧ m = 0) ∨ ∃ g n cap cur, V = .slice (some ⟨g, 0, none⟩) n cap ∧ u.heap[g]? = some (.cells cur T (0, 0)) ∧ n ≤ cap ∧ cap ≤ maxLen ∧ cur.size = cap * z ∧ m ≤ n ∧ ∀ j, j < m * z → cur[j]? = c[j % z]?
section
variable {T : TypeId} {z : Nat} {u u' : World} {c : List Value} {m : Nat} {V : Value}
theorem Alk.blk (h : Alk T z u c m V) : ∀ b, V.ownBlock = some b → b < u.heap.size ∧ TyB u T b := by
  intro b hb
  rcases h with ⟨rfl, _⟩ | ⟨g, n, cap, cur, rfl, hg, _⟩
  · cases hb
  · cases hb
    exact ⟨(Array.getElem?_eq_some_iff.1 hg).1, _, _, hg⟩
theorem Alk.keep (h : Alk T z u c m V) (hk : ∀ b, V.ownBlock = some b → u'.heap[b]? = u.heap[b]?) : Alk T z u' c m V := by
  rcases h with h | ⟨g, n, cap, cur, rfl, hg, r⟩
  · exact Or.inl h
  · exact Or.inr ⟨g, n, cap, cur, rfl, (hk g rfl).trans hg, r⟩
theorem Alk.write {g : Nat} {cur cur' : Array Value} (h : Alk T z u c m V) (hg : u.heap[g]? = some (.cells cur T (0, 0))) (hg' : u'.heap[g]? = some (.cells cur' T (0, 0))) (hs : cur'.size = cur.size) (hj : ∀ j, j < cur.size → cur'[j]? = cur[j]? ∨ cur'[j]? = c[j % z]?)
    (ho : ∀ b, b ≠ g → b < u.heap.size → u'.heap[b]? = u.heap[b]?) : Alk T z u' c m V := by
  rcases h with h | ⟨b, n, cap, cu, rfl, hb, h1, h2, h3, h4, h5⟩
  · exact Or.inl h
  · by_cases e : b = g
    · subst e
      rw [hg] at hb
      cases hb
      refine Or.inr ⟨b, n, cap, cur', rfl, hg', h1, h2, hs.trans h3, h4, fun j hjm => ?_⟩
      have hlt : j < cur.size := by
        rw [h3]
        exact Nat.lt_of_lt_of_le hjm (Nat.mul_le_mul_right _ (by omega))
      rcases hj j hlt with e1 | e1
      · rw [e1]; exact h5 j hjm
      · exact e1
    · exact Or.inr ⟨b, n, cap, cu, rfl, (ho b e (Array.getElem?_eq_some_iff.1 hb).1).trans hb, h1, h2, h3, h4, h5⟩
theorem mod_at {z m j : Nat} (h1 : m * z ≤ j) (h2 : j < m * z + z) : j % z = j - m * z := by
  obtain ⟨d, rfl⟩ : ∃ d, j = m * z + d := ⟨j - m * z, by omega⟩
  rw [Nat.mul_comm m z, Nat.mul_add_mod, Nat.mod_eq_of_lt (by omega)]
  omega
/-- one element written over -/
theorem Alk.put {g n cap : Nat} (h : Alk T z u c m (.slice (some ⟨g, 0, none⟩) n cap)) (hc : c.length = z) (hm : m < n) :
    Alk T z (u.setCells g (m * z) c) c (m + 1) (.slice (some ⟨g, 0, none⟩) n cap) ∧ (∀ m' V', Alk T z u c m' V' → Alk T z (u.setCells g (m * z) c) c m' V') ∧ u.grownBy (u.setCells g (m * z) c) (some g) := by
  have hkb := World.keptBut_setCells g (may := fun _ => True) c (m * z) u (fun _ _ => trivial)
  rcases h with ⟨h, _⟩ | ⟨g', n', cap', cur, hv, hg, h1, h2, h3, h4, h5⟩
  · cases h
  · cases hv
    obtain ⟨cur', hg', hs, hj⟩ := heap_cells g c (m * z) u cur T (0, 0) hg
    have hoth : ∀ b, b ≠ g → b < u.heap.size → (u.setCells g (m * z) c).heap[b]? = u.heap[b]? := fun b hb hlt => World.heap_setCells_other u g (m * z) c hlt hb
    have hj2 : ∀ j, j < cur.size → cur'[j]? = cur[j]? ∨ cur'[j]? = c[j % z]? := by
      intro j hlt
      rw [hj j hlt]
      by_cases e : m * z ≤ j ∧ j < m * z + c.length
      · rw [if_pos e, mod_at e.1 (hc ▸ e.2)]; exact Or.inr rfl
      · rw [if_neg e]; exact Or.inl rfl
    refine ⟨Or.inr ⟨g, n, cap, cur', rfl, hg', h1, h2, hs.trans h3, hm, fun j hjm => ?_⟩, fun m' V' hV' => hV'.write hg hg' hs hj2 hoth, ⟨World.os_setCells _ _ _ _, tape_setCells _ _ _ _, World.output_setCells _ _ _ _, Nat.le_of_eq (size_setCells' _ _ _ _).symm, fun k hk hne => hoth k (fun e => hne (by rw [e])) hk⟩⟩
    have hlt : j < cur.size := by
      rw [h3]
      exact Nat.lt_of_lt_of_le hjm (Nat.mul_le_mul_right _ (by omega))
    rw [hj j hlt]
    by_cases e : m * z ≤ j ∧ j < m * z + c.length
    · rw [if_pos e, mod_at e.1 (hc ▸ e.2)]
    · rw [if_neg e]
      rw [Nat.add_mul, Nat.one_mul] at hjm
      exact h5 j (by omega)
end
/-- one element more -/
theorem run_append_alk (w : World) (t ty T : TypeId) (i0 : TypeInfo) (zv : Value) (z bytes : Nat) (ht : Try.prog.underlying t = some (.slice T)) (hi : Try.prog.info? T = some i0) (hz0 : i0.zero = some zv) (hz1 : i0.size = z) (hz2 : i0.bytes = bytes) (hzs : zv.cells.size = z) (hz : 0 < z) (hby : bytes ≤ 100)
    (c : List Value) (hcl : c.length = z) (hone : ∀ u ∈ c, u.oneCell' = true) (a : Option Addr) (n cap : Nat) (h : Alk T z w c n (.slice a n cap)) (hl : n ≤ 1000000) (ad : Addr) (k : Nat) (hc : ∀ j v, c[j]? = some v → w.cell? (ad.add j) = some v) :
    ∃ g cap' w', (Builtin.append_ #[t, t] ty #[.slice a n cap, .slice (some ad) 1 k]).run Try.prog w = .ok (.slice (some ⟨g, 0, none⟩) (n + 1) cap') w' ∧ Alk T z w' c (n + 1) (.slice (some ⟨g, 0, none⟩) (n + 1) cap') ∧ (∀ m V', Alk T z w c m V' → Alk T z w' c m V') ∧ ((Value.slice a n cap).ownBlock = some g ∧ w.grownBy w' (some g) ∨ g = w.heap.size ∧ w.grownBy w' none) := by
  rcases h with ⟨h, rfl⟩ | ⟨g, n', cap', cur, hv, hg, h1, h2, h3, h4, h5⟩
  · cases h
    obtain ⟨g, cp, w', hr, ho, hgr, hgg, hlt⟩ := run_append_lies (P := Try.prog) w t ty 0 T i0 zv z bytes ht hi hz0 hz1 hz2 hzs hz (.slice none 0 0) 0 [] (World.ownsRow_nil w 0 T z) ad 1 k c (by rw [Nat.one_mul]; exact hcl) hc hone (by decide) (by simp only [maxLen]; omega) (by omega) (Nat.zero_le _) w.heap.size rfl
    have hgs : g = w.heap.size := by
      rcases hgg with e | e
      · cases e
      · exact e
    refine ⟨g, cp, w', hr, ?_, fun m V' hV' => hV'.keep (fun b hb => hgr.block b (hV'.blk b hb).1 (fun e => by cases e)), Or.inr ⟨hgs, hgr⟩⟩
    rcases ho.2 with ⟨h0, _⟩ | ⟨g', c', cur, hv, _, hg, h1, h2, h3, h4⟩
    · cases h0
    · cases hv
      refine Or.inr ⟨g, 0 + 1, cp, cur, rfl, hg, h1, h2, h3, Nat.le_refl _, fun j hj => ?_⟩
      rw [Nat.zero_add, Nat.one_mul] at hj
      rw [Nat.mod_eq_of_lt hj]
      have e1 : cur.toList[j]? = ([] ++ c)[j]? := by rw [← h4, List.getElem?_take_of_lt (by omega)]
      rw [← Array.getElem?_toList, e1, List.nil_append]
  · cases hv
    have hsz := (Array.getElem?_eq_some_iff.1 hg).1
    have holds : ∀ j v, (cur.toList.take (n * z))[j]? = some v → w.cell? ((⟨g, 0, none⟩ : Addr).add j) = some v := by
      intro j v hj
      have hlt : j < n * z := by
        have := (List.getElem?_eq_some_iff.1 hj).1
        rw [List.length_take] at this
        omega
      rw [List.getElem?_take_of_lt hlt, Array.getElem?_toList] at hj
      rw [Go.WideShapes.add_plain, Nat.zero_add]
      simp [World.cell?, hg, hj]
    have hlen : (cur.toList.take (n * z)).length = n * z := by
      rw [List.length_take, Array.length_toList, h3]
      exact Nat.min_eq_left (Nat.mul_le_mul_right _ h1)
    by_cases hroom : n + 1 ≤ cap
    · have hfit : n * i0.size + c.length ≤ cur.size := by
        rw [hz1, hcl, h3, ← Nat.succ_mul]; exact Nat.mul_le_mul_right _ hroom
      have hr := run_append_room (P := Try.prog) w t ty T i0 ht hi g n cap cur hg ad 1 k c (by rw [Nat.one_mul, hz1]; exact hcl) hc hone hroom hfit
      rw [hz1] at hr hfit
      have hg' := setRow_heap w g cur (cur.toList.take (n * z) ++ c ++ cur.toList.drop (n * z + c.length)).toArray T (0, 0) hg
      have hs : (cur.toList.take (n * z) ++ c ++ cur.toList.drop (n * z + c.length)).toArray.size = cur.size := by
        simp only [List.size_toArray, List.length_append, hlen, List.length_drop, Array.length_toList]
        omega
      have hj : ∀ j, j < cur.size → (cur.toList.take (n * z) ++ c ++ cur.toList.drop (n * z + c.length)).toArray[j]? = if n * z ≤ j ∧ j < n * z + c.length then c[j - n * z]? else cur[j]? := by
        intro j hlt
        rw [List.getElem?_toArray]
        by_cases e1 : j < n * z
        · rw [List.append_assoc, List.getElem?_append_left (by omega), List.getElem?_take_of_lt e1, if_neg (by omega), Array.getElem?_toList]
        · by_cases e2 : j < n * z + c.length
          · rw [List.getElem?_append_left (by rw [List.length_append]; omega), List.getElem?_append_right (by omega), hlen, if_pos ⟨by omega, e2⟩]
          · rw [List.getElem?_append_right (by rw [List.length_append]; omega), List.length_append, hlen, List.getElem?_drop, if_neg (by omega), Array.getElem?_toList, show n * z + c.length + (j - (n * z + c.length)) = j by omega]
      have hoth : ∀ b, b ≠ g → b < w.heap.size → (w.setRow g (cur.toList.take (n * z) ++ c ++ cur.toList.drop (n * z + c.length)).toArray).heap[b]? = w.heap[b]? := fun b hb _ => setRow_other w g b _ hb
      have hj2 : ∀ j, j < cur.size → (cur.toList.take (n * z) ++ c ++ cur.toList.drop (n * z + c.length)).toArray[j]? = cur[j]? ∨ (cur.toList.take (n * z) ++ c ++ cur.toList.drop (n * z + c.length)).toArray[j]? = c[j % z]? := by
        intro j hlt
        rw [hj j hlt]
        by_cases e : n * z ≤ j ∧ j < n * z + c.length
        · rw [if_pos e, mod_at e.1 (hcl ▸ e.2)]; exact Or.inr rfl
        · rw [if_neg e]; exact Or.inl rfl
      refine ⟨g, cap, _, hr, Or.inr ⟨g, n + 1, cap, _, rfl, hg', hroom, h2, hs.trans h3, Nat.le_refl _, fun j hjm => ?_⟩, fun m V' hV' => hV'.write hg hg' hs hj2 hoth, Or.inl ⟨rfl, ⟨rfl, rfl, rfl, by simp, fun b hlt hb => hoth b (fun e => hb (by rw [e])) hlt⟩⟩⟩
      rw [Nat.add_mul, Nat.one_mul] at hjm
      rw [hj j (by omega)]
      by_cases e : n * z ≤ j ∧ j < n * z + c.length
      · rw [if_pos e, mod_at e.1 (hcl ▸ e.2)]
      · rw [if_neg e]
        exact h5 j (by omega)
    · have hr := run_append_grow (P := Try.prog) w t ty T i0 zv ht hi hz0 ⟨g, 0, none⟩ n cap (cur.toList.take (n * z)) (by rw [hz1]; exact hlen) holds ad 1 k c (by rw [hz1, Nat.one_mul]; exact hcl) hc (by omega) (by omega) (by
        rw [hz2]
        have e1 := nextslicecap_le (need := n + 1) (old := cap) (by omega)
        have e2 : Builtin.nextslicecap (n + 1) cap * bytes ≤ (2 * (n + 1)) * 100 := Nat.mul_le_mul e1 hby
        simp only [maxLen] at h2
        omega)
      have hge := grownCap_ge w (n + 1) cap T
      have hcm : grownCap w (n + 1) cap T ≤ maxLen := grownCap_le_maxLen w (n + 1) cap T (by simp only [maxLen]; omega)
      have hgr : w.grownBy (w.drew.alloc (.cells ((cur.toList.take (n * z)).toArray ++ c.toArray ++ Builtin.zeroCells zv.cells (grownCap w (n + 1) cap T - (n + 1))) T)) none := ⟨rfl, rfl, rfl, by simp, fun _ hk _ => heap_alloc_old w.drew _ hk⟩
      refine ⟨w.heap.size, _, _, hr, Or.inr ⟨w.heap.size, n + 1, _, _, rfl, heap_alloc_new w.drew _, hge, hcm, ?_, Nat.le_refl _, fun j hjm => ?_⟩, fun m V' hV' => hV'.keep (fun b hb => hgr.block b (hV'.blk b hb).1 (fun e => by cases e)), Or.inr ⟨rfl, hgr⟩⟩
      · simp only [Array.size_append, List.size_toArray, size_zeroCells, hlen, hcl, hzs]
        rw [← Nat.succ_mul, ← Nat.add_mul]
        rw [show n.succ + (grownCap w (n + 1) cap T - (n + 1)) = grownCap w (n + 1) cap T by omega]
      · rw [Nat.add_mul, Nat.one_mul] at hjm
        rw [← Array.getElem?_toList]
        simp only [Array.toList_append]
        rw [List.getElem?_append_left (by rw [List.length_append, hlen, hcl]; exact hjm)]
        by_cases e : j < n * z
        · rw [List.getElem?_append_left (by omega), List.getElem?_take_of_lt e, Array.getElem?_toList]
          exact h5 j e
        · rw [List.getElem?_append_right (by omega), hlen, mod_at (by omega) hjm]
end Go.Proofs.Ytjmbimgofceanaa

/- What the program's own functions owe. -/
namespace Go.Proofs.Ytjmbimgofceanaa
open Go.RowKit

/-- WHAT Build LEAVES. -/
def BuildPost (w : World) (t : Tn) (rule : Int) (e : Ending) (w' : World) : Prop := Below w.heap.size w w' ∧ ∃ y : Nf, e = .returned (.tuple #[y.val, .int .i64 ((buildOf t rule).2 : Nat)]) ∧ MaAt (fun b => w.heap.size ≤ b ∧ ¬ TyB w' 38 b) w' (buildOf t rule).1 y
/-- a refusal -/
theorem build_no {w u : World} {t : Tn} {rule : Int} {R k : Nat} (hb : Below w.heap.size w u) (hR : w.heap.size ≤ R) (hk : buildOf t rule = (zeroMa, k)) : BuildPost w t rule (.returned (.tuple #[Nf.val ⟨0, none, 0, 0, none, 0, 0⟩, .int .i64 (k : Nat)])) (put3 u R ⟨0, none, 0, 0, none, 0, 0⟩) := by
  unfold BuildPost
  rw [hk]
  exact ⟨below_put3 hb hR _, _, rfl, zero_maAt _ _⟩
/-- WHAT Union LEAVES. -/
def UnionPost (w : World) (Ms : List Ma) (e : Ending) (w' : World) : Prop := Below w.heap.size w w' ∧ ∃ y : Nf, e = .returned (.tuple #[y.val, .int .i64 ((unionOf Ms).2 : Nat)]) ∧ MaAt (fun b => w.heap.size ≤ b ∧ ¬ TyB w' 38 b) w' (unionOf Ms).1 y
theorem union_no {w u : World} {Ms : List Ma} {R : Nat} (hb : Below w.heap.size w u) (hR : w.heap.size ≤ R) (hk : Ms.all rightOf = false) : UnionPost w Ms (.returned (.tuple #[Nf.val ⟨0, none, 0, 0, none, 0, 0⟩, .int .i64 ((70 : Nat) : Nat)])) (put3 u R ⟨0, none, 0, 0, none, 0, 0⟩) := by
  unfold UnionPost unionOf
  rw [hk]
  exact ⟨below_put3 hb hR _, _, rfl, zero_maAt _ _⟩
theorem union_yes {w u : World} {O R : Nat} {x : Nf} {o : Ma} {Ms : List Ma} (h : Un w O R u x o) (hk : Ms.all rightOf = true) (ho : unions Ms ⟨1, [], [0]⟩ = o) : UnionPost w Ms (.returned (.tuple #[x.val, .int .i64 ((0 : Nat) : Nat)])) (put3 u R x) ∧ NFB (put3 u R x) R x := by
  refine ⟨?_, h.res.put3 x⟩
  unfold UnionPost unionOf
  rw [hk, if_pos rfl, ho]
  have hk2 : ∀ k, k ≠ R → (put3 u R x).heap[k]? = u.heap[k]? := fun k hk => heap_put3 u R x k hk
  have h1 := (h.e.keep (w' := put3 u R x) (fun b _ _ hb => hk2 b (fun e => absurd (TyB.ne hb (e ▸ h.res.ty)) (by decide))))
  have h2 := (h.r.keep (w' := put3 u R x) (fun b _ _ hb => hk2 b (fun e => absurd (TyB.ne hb (e ▸ h.res.ty)) (by decide))))
  exact ⟨below_put3 h.low h.hR _, x, rfl, h.s, h1.at.1, h2.at.1, h1.at2.keep (fun b hb _ => ⟨hb.1, fun h => absurd (TyB.ne hb.2 h) (by decide)⟩) (fun _ _ _ => rfl), h2.at2.keep (fun b hb _ => ⟨hb.1, fun h => absurd (TyB.ne hb.2 h) (by decide)⟩) (fun _ _ _ => rfl)⟩
/-- WHAT THE PROGRAM's OWN FUNCTIONS OWE. -/
def BuildOK : Prop := ∀ (t : Tn) (x : Nd) (w : World) (rule : Int), InAt w t x → Calls Try.prog 11 #[x.val, .int .i64 rule] w (BuildPost w t rule)
def UnionOK : Prop := ∀ (Ms : List Ma) (xs : List Nf) (a : Option Addr) (c : Nat) (w : World), ListAt w a Ms xs → Ms.length ≤ c → c ≤ maxLen → Ms.length ≤ 10000000 → (unions Ms ⟨1, [], [0]⟩).es.length ≤ 10000000 → (unions Ms ⟨1, [], [0]⟩).rs.length ≤ 10000000 → Calls Try.prog 21 #[.slice a Ms.length c] w (UnionPost w Ms)
def RightOK : Prop := ∀ (M : Ma) (x : Nf) (w : World), MaAt (fun _ => True) w M x → M.es.length ≤ 10000000 → M.rs.length ≤ 10000000 → Calls Try.prog 12 #[x.val] w fun e w' => e = .returned (.bool (rightOf M)) ∧ Below w.heap.size w w'
def KnownOK : Prop := ∀ w : World, Calls Try.prog 7 #[] w fun e w' => e = .returned (.bool true) ∧ Below w.heap.size w w'
end Go.Proofs.Ytjmbimgofceanaa

/- What Build and Union answer lies in lists of the call's own. -/
namespace Go.Proofs.Ytjmbimgofceanaa
open Go.RowKit

/-- A MACHINE in lists of the call's own. -/
def Own (w : World) (base : Nat) (M : Ma) (y : Nf) : Prop := y.S = M.S ∧ RowE w base (.slice y.ea y.en y.ec) M.es ∧ RowU w base (.slice y.ra y.rn y.rc) M.rs
theorem own_zero (w : World) (base : Nat) : Own w base zeroMa ⟨0, none, 0, 0, none, 0, 0⟩ := ⟨rfl, rowE_nil _ _, rowU_nil _ _⟩
theorem Own.later {w w' : World} {base : Nat} {M : Ma} {y : Nf} (h : Own w base M y) (hb : Below w.heap.size w w') : Own w' base M y := ⟨h.1, h.2.1.later hb, h.2.2.later hb⟩
def BuildOwn (w : World) (t : Tn) (rule : Int) (e : Ending) (w' : World) : Prop := Below w.heap.size w w' ∧ ∃ y : Nf, e = .returned (.tuple #[y.val, .int .i64 ((buildOf t rule).2 : Nat)]) ∧ Own w' w.heap.size (buildOf t rule).1 y
theorem build_nop {w u : World} {t : Tn} {rule : Int} {R k : Nat} (hb : Below w.heap.size w u) (hR : w.heap.size ≤ R) (hk : buildOf t rule = (zeroMa, k)) : BuildOwn w t rule (.returned (.tuple #[Nf.val ⟨0, none, 0, 0, none, 0, 0⟩, .int .i64 (k : Nat)])) (put3 u R ⟨0, none, 0, 0, none, 0, 0⟩) := by
  unfold BuildOwn
  rw [hk]
  exact ⟨below_put3 hb hR _, _, rfl, own_zero _ _⟩
def UnionOwn (w : World) (Ms : List Ma) (e : Ending) (w' : World) : Prop := Below w.heap.size w w' ∧ ∃ y : Nf, e = .returned (.tuple #[y.val, .int .i64 ((unionOf Ms).2 : Nat)]) ∧ Own w' w.heap.size (unionOf Ms).1 y
theorem union_nop {w u : World} {Ms : List Ma} {R : Nat} (hb : Below w.heap.size w u) (hR : w.heap.size ≤ R) (hk : Ms.all rightOf = false) : UnionOwn w Ms (.returned (.tuple #[Nf.val ⟨0, none, 0, 0, none, 0, 0⟩, .int .i64 ((70 : Nat) : Nat)])) (put3 u R ⟨0, none, 0, 0, none, 0, 0⟩) := by
  unfold UnionOwn unionOf
  rw [hk]
  exact ⟨below_put3 hb hR _, _, rfl, own_zero _ _⟩
theorem union_yesp {w u : World} {O R : Nat} {x : Nf} {o : Ma} {Ms : List Ma} (h : Un w O R u x o) (hk : Ms.all rightOf = true) (ho : unions Ms ⟨1, [], [0]⟩ = o) : UnionOwn w Ms (.returned (.tuple #[x.val, .int .i64 ((0 : Nat) : Nat)])) (put3 u R x) ∧ NFB (put3 u R x) R x := by
  refine ⟨?_, h.res.put3 x⟩
  unfold UnionOwn unionOf
  rw [hk, if_pos rfl, ho]
  have hk2 : ∀ k, k ≠ R → (put3 u R x).heap[k]? = u.heap[k]? := fun k hk => heap_put3 u R x k hk
  have h1 := (h.e.keep (w' := put3 u R x) (fun b _ _ hb => hk2 b (fun e => absurd (TyB.ne hb (e ▸ h.res.ty)) (by decide))))
  have h2 := (h.r.keep (w' := put3 u R x) (fun b _ _ hb => hk2 b (fun e => absurd (TyB.ne hb (e ▸ h.res.ty)) (by decide))))
  exact ⟨below_put3 h.low h.hR _, x, rfl, h.s, h1, h2⟩
end Go.Proofs.Ytjmbimgofceanaa

/- From the row's own conditions to what the walks ask: a node that came in, with all that lies below it. -/
namespace Go.Proofs.Ytjmbimgofceanaa
open Go.ChangeShapes Go.WideShapes Go.ChangeAt Go.RowKit Go.Deep

end Go.Proofs.Ytjmbimgofceanaa

/- Rows of machines of the call's own. -/
namespace Go.Proofs.Ytjmbimgofceanaa
open Go.RowKit

theorem flatM_length (xs : List Nf) : (flatM xs).length = 3 * xs.length := by
  induction xs with
  | nil => rfl
  | cons x r ih => simp only [flatM, List.flatMap_cons, List.length_append, List.length_cons] at ih ⊢; rw [ih]; simp [Nf.cells]; omega
theorem flatM_append (a b : List Nf) : flatM (a ++ b) = flatM a ++ flatM b := by simp [flatM]
def RowM (w : World) (base : Nat) (V : Value) (xs : List Nf) : Prop := w.ownsRow base 38 3 V xs.length (flatM xs)
section
variable {w w' : World} {base : Nat} {V : Value} {xs : List Nf}
theorem RowM.ty (h : RowM w base V xs) : ∀ b, V.ownBlock = some b → base ≤ b ∧ TyB w 38 b := by
  intro b hb
  rcases h.2 with ⟨rfl, _⟩ | ⟨g, cap, cur, rfl, hbg, hg, _⟩
  · simp [Value.ownBlock] at hb
  · simp [Value.ownBlock] at hb
    subst hb
    exact ⟨hbg, ⟨_, _, hg⟩⟩
theorem RowM.later (h : RowM w base V xs) (hb : Below w.heap.size w w') : RowM w' base V xs := by
  refine ⟨h.1, ?_⟩
  rcases h.2 with h6 | ⟨g, cap, cur, rfl, hBg, hg, rest⟩
  · exact Or.inl h6
  · exact Or.inr ⟨g, cap, cur, rfl, hBg, (hb.block g (Array.getElem?_eq_some_iff.1 hg).1).trans hg, rest⟩
theorem RowM.form (h : RowM w base V xs) : ∃ a c, V = .slice a xs.length c ∧ xs.length ≤ c ∧ c ≤ maxLen ∧ LAt w a xs := by
  rcases h.2 with ⟨hv, hn⟩ | ⟨g, cap, cur, hv, hbg, hg, h1, h2, h3, h4⟩
  · exact ⟨none, 0, by rw [hv, hn], by omega, by decide, Or.inl (List.length_eq_zero_iff.1 hn)⟩
  · refine ⟨_, _, hv, h1, h2, Or.inr ⟨g, 0, rfl, fun j v hj => ?_⟩⟩
    have hlt := (List.getElem?_eq_some_iff.1 hj).1
    rw [flatM_length] at hlt
    rw [← h4, List.getElem?_take_of_lt (by omega)] at hj
    simp only [World.cell?, hg, Nat.zero_add]
    simpa using hj
end
/-- THE COPIES OF A LIST OF MACHINES. -/
def Cops (w : World) (base : Nat) (Ms : List Ma) (ys : List Nf) : Prop := ∀ (i : Nat) (M : Ma) (y : Nf), Ms[i]? = some M → ys[i]? = some y → Cop (fun b => base ≤ b ∧ ¬ TyB w 38 b) w M y
theorem Cops.later {w w' : World} {base : Nat} {Ms : List Ma} {ys : List Nf} (h : Cops w base Ms ys) (hb : Below w.heap.size w w') : Cops w' base Ms ys := fun i M y hM hy =>
  (h i M y hM hy).keep (fun b hX hlt => ⟨hX.1, fun ht => hX.2 (ht.same (hb.block b hlt).symm)⟩) (fun b _ hlt => hb.block b hlt)
theorem Cops.grown {w w' : World} {base : Nat} {Ms : List Ma} {ys : List Nf} (h : Cops w base Ms ys) {r : Option Nat} (hg : w.grownBy w' r) (hr : ∀ k, r = some k → TyB w 38 k) : Cops w' base Ms ys := fun i M y hM hy => by
  have hst : ∀ b, ¬ TyB w 38 b → b < w.heap.size → w'.heap[b]? = w.heap[b]? := fun b hn hlt => hg.block b hlt (fun e => hn (hr b e.symm))
  exact (h i M y hM hy).keep (fun b hX hlt => ⟨hX.1, fun ht => hX.2 (ht.same (hst b hX.2 hlt).symm)⟩) (fun b hX hlt => hst b hX.2 hlt)
theorem Cops.snoc {w : World} {base : Nat} {Ms : List Ma} {ys : List Nf} {M : Ma} {y : Nf} (h : Cops w base Ms ys) (hM : Ms[ys.length]? = some M) (hc : Cop (fun b => base ≤ b ∧ ¬ TyB w 38 b) w M y) : Cops w base Ms (ys ++ [y]) := fun i M' y' hM' hy' => by
  by_cases hi : i < ys.length
  · rw [List.getElem?_append_left hi] at hy'
    exact h i M' y' hM' hy'
  · rw [List.getElem?_append_right (by omega)] at hy'
    have hi2 : i = ys.length := by
      have := (List.getElem?_eq_some_iff.1 hy').1
      simp at this
      omega
    subst hi2
    simp at hy'
    subst hy'
    rw [hM] at hM'
    cases hM'
    exact hc
theorem LAt.front {w : World} {a : Option Addr} {xs ys : List Nf} (h : LAt w a (xs ++ ys)) : LAt w a xs := by
  rcases h with h | ⟨b, off, ha, hc⟩
  · exact Or.inl (List.append_eq_nil_iff.1 h).1
  · refine Or.inr ⟨b, off, ha, fun j v hj => hc j v ?_⟩
    rw [flatM_append, List.getElem?_append_left (List.getElem?_eq_some_iff.1 hj).1]
    exact hj
theorem mach_bounds (t : Tn) (rule : Int) : (buildOf t rule).1.es.length ≤ 4096 ∧ (buildOf t rule).1.rs.length ≤ 4096 := by
  unfold buildOf
  split
  · exact ⟨Nat.zero_le _, Nat.zero_le _⟩
  split
  · exact ⟨Nat.zero_le _, Nat.zero_le _⟩
  split
  · exact ⟨Nat.zero_le _, Nat.zero_le _⟩
  · rename_i h1 h2 _
    have h3 := lay_bounds (t := t) (by simpa using h1) h2
    unfold mach
    simp only [List.length_set, List.length_replicate]
    omega
theorem union_bounds {Ms : List Ma} (hbE : (unions Ms ⟨1, [], [0]⟩).es.length ≤ 10000000) (hbR : (unions Ms ⟨1, [], [0]⟩).rs.length ≤ 10000000) : (unionOf Ms).1.es.length ≤ 10000000 ∧ (unionOf Ms).1.rs.length ≤ 10000000 := by
  unfold unionOf
  split
  · exact ⟨hbE, hbR⟩
  · exact ⟨Nat.zero_le _, Nat.zero_le _⟩
end Go.Proofs.Ytjmbimgofceanaa

/- From the row's own conditions to what the walk asks: a list of machines that came in. -/
namespace Go.Proofs.Ytjmbimgofceanaa
open Go.ChangeShapes Go.WideShapes Go.ChangeAt Go.RowKit Go.Deep

end Go.Proofs.Ytjmbimgofceanaa

/- NfaOwn: the families of lists, the state between two steps, and how each step leaves them. -/
namespace Go.Proofs.Ytjmbimgofceanaa
open Go.RowKit

/-- A FAMILY of lists: each all alike so far, no block two owners'. -/
structure Fam (T : TypeId) (z : Nat) (cs : Nat → List Value) (D : Nat → Prop) (u : World) (F : Nat → Nat → Value → Prop) : Prop where
  al : ∀ j m V, F j m V → Alk T z u (cs j) m V
  sep : ∀ j m V j' m' V' b, F j m V → F j' m' V' → V.ownBlock = some b → V'.ownBlock = some b → j = j'
  dd : ∀ j m V b, F j m V → V.ownBlock = some b → D b
def Fadd (F : Nat → Nat → Value → Prop) (i m : Nat) (V : Value) : Nat → Nat → Value → Prop := fun j m' V' => F j m' V' ∨ j = i ∧ m' = m ∧ V' = V
section
variable {T : TypeId} {z : Nat} {cs : Nat → List Value} {D : Nat → Prop} {u u' : World} {F : Nat → Nat → Value → Prop}
theorem Fam.keep (h : Fam T z cs D u F) (hk : ∀ b, b < u.heap.size → TyB u T b → D b → u'.heap[b]? = u.heap[b]?) : Fam T z cs D u' F :=
  ⟨fun j m V hF => (h.al j m V hF).keep (fun b hb => hk b ((h.al j m V hF).blk b hb).1 ((h.al j m V hF).blk b hb).2 (h.dd j m V b hF hb)), h.sep, h.dd⟩
theorem Fam.later (h : Fam T z cs D u F) (hb : Below u.heap.size u u') : Fam T z cs D u' F := h.keep (fun b hlt _ _ => hb.block b hlt)
theorem Fam.other (h : Fam T z cs D u F) {r : Option Nat} (hg : u.grownBy u' r) (hr : ∀ k, r = some k → ∃ S, TyB u S k ∧ S ≠ T) : Fam T z cs D u' F :=
  h.keep (fun b hlt hb _ => hg.block b hlt (fun e => by obtain ⟨S, h1, h2⟩ := hr b e.symm; exact h2 (TyB.ne h1 hb)))
/-- a list that is the same, or one that is new, with the family -/
theorem Fam.add (h : Fam T z cs D u F) {i m : Nat} {V : Value} (ha : Alk T z u (cs i) m V) (hs : ∀ j m' V' b, F j m' V' → V'.ownBlock = some b → V.ownBlock = some b → j = i) (hd : ∀ b, V.ownBlock = some b → D b) : Fam T z cs D u (Fadd F i m V) := by
  refine ⟨fun j m' V' hF => ?_, fun j m1 V1 j' m2 V2 b h1 h2 e1 e2 => ?_, fun j m' V' b hF e => ?_⟩
  · rcases hF with hF | ⟨rfl, rfl, rfl⟩
    · exact h.al _ _ _ hF
    · exact ha
  · rcases h1 with h1 | ⟨rfl, rfl, rfl⟩
    · rcases h2 with h2 | ⟨rfl, rfl, rfl⟩
      · exact h.sep _ _ _ _ _ _ b h1 h2 e1 e2
      · exact hs _ _ _ b h1 e1 e2
    · rcases h2 with h2 | ⟨rfl, rfl, rfl⟩
      · exact (hs _ _ _ b h2 e2 e1).symm
      · rfl
  · rcases hF with hF | ⟨rfl, rfl, rfl⟩
    · exact h.dd _ _ _ b hF e
    · exact hd b e
/-- all of the same owner stand when its element is written; the others' blocks stand -/
theorem Fam.turn (h : Fam T z cs D u F) {i g m0 : Nat} {V0 : Value} (hF0 : F i m0 V0) (hg0 : V0.ownBlock = some g) (hg : u.grownBy u' (some g)) (hal : ∀ m V, Alk T z u (cs i) m V → Alk T z u' (cs i) m V) : Fam T z cs D u' F := by
  refine ⟨fun j m V hF => ?_, h.sep, h.dd⟩
  by_cases e : j = i
  · subst e
    exact hal m V (h.al _ _ _ hF)
  · refine (h.al _ _ _ hF).keep (fun b hb => hg.block b ((h.al _ _ _ hF).blk b hb).1 (fun q => ?_))
    cases q
    exact e (h.sep _ _ _ _ _ _ _ hF hF0 hb hg0)
theorem Fam.put (h : Fam T z cs D u F) {i m g n cap : Nat} (hc : (cs i).length = z) (hF : F i m (.slice (some ⟨g, 0, none⟩) n cap)) (hm : m < n) :
    Fam T z cs D (u.setCells g (m * z) (cs i)) (Fadd F i (m + 1) (.slice (some ⟨g, 0, none⟩) n cap)) ∧ u.grownBy (u.setCells g (m * z) (cs i)) (some g) ∧ D g ∧ TyB u T g := by
  obtain ⟨h1, h2, h3⟩ := (h.al _ _ _ hF).put hc hm
  refine ⟨(h.turn hF rfl h3 h2).add h1 (fun j m' V' b hF' e1 e2 => h.sep _ _ _ _ _ _ b hF' hF e1 e2) (fun b hb => h.dd _ _ _ b hF hb), h3, h.dd _ _ _ g hF rfl, ((h.al _ _ _ hF).blk g rfl).2⟩
theorem Fam.more (h : Fam T z cs D u F) (hD : ∀ b, u.heap.size ≤ b → D b) {i n g cap cap' : Nat} {a : Option Addr} (hF : F i n (.slice a n cap)) (h1 : Alk T z u' (cs i) (n + 1) (.slice (some ⟨g, 0, none⟩) (n + 1) cap')) (h2 : ∀ m V', Alk T z u (cs i) m V' → Alk T z u' (cs i) m V') (h3 : (Value.slice a n cap).ownBlock = some g ∧ u.grownBy u' (some g) ∨ g = u.heap.size ∧ u.grownBy u' none) :
    Fam T z cs D u' (Fadd F i (n + 1) (.slice (some ⟨g, 0, none⟩) (n + 1) cap')) ∧ ∃ r, u.grownBy u' r ∧ ∀ k, r = some k → D k ∧ TyB u T k := by
  rcases h3 with ⟨h3, h4⟩ | ⟨rfl, h4⟩
  · refine ⟨(h.turn hF h3 h4 h2).add h1 (fun j m' V' b hF' e1 e2 => ?_) (fun b hb => ?_), _, h4, fun k hk => ?_⟩
    · cases e2
      exact h.sep _ _ _ _ _ _ _ hF' hF e1 h3
    · cases hb
      exact h.dd _ _ _ _ hF h3
    · cases hk
      exact ⟨h.dd _ _ _ _ hF h3, ((h.al _ _ _ hF).blk _ h3).2⟩
  · refine ⟨(h.keep (u' := u') (fun b hlt _ _ => h4.block b hlt (fun e => by cases e))).add h1 (fun j m' V' b hF' e1 e2 => ?_) (fun b hb => ?_), _, h4, fun k hk => by cases hk⟩
    · cases e2
      exact absurd ((h.al _ _ _ hF').blk _ e1).1 (Nat.lt_irrefl _)
    · cases hb
      exact hD _ (Nat.le_refl _)
end
/-- an edge that is written, a word -/
def egs (j : Nat) : List Value := [.int .i64 ((50 + j : Nat) : Int), .int .i64 0, .int .i64 0, .int .u64 0, .int .u64 0, .int .u64 0, .int .u64 0]
def wgs (j : Nat) : List Value := [.int .u32 ((50 + j : Nat) : Int)]
abbrev FamE (D : Nat → Prop) (u : World) (F : Nat → Nat → Value → Prop) : Prop := Fam 57 7 egs D u F
abbrev FamU (D : Nat → Prop) (u : World) (F : Nat → Nat → Value → Prop) : Prop := Fam 44 1 wgs D u F
theorem RowE.alk {w : World} {base : Nat} {V : Value} {es : List Eg} (h : RowE w base V es) (c : List Value) : Alk 57 7 w c 0 V := by
  rcases h.2 with ⟨h0, h1⟩ | ⟨g, cap, cur, hv, _, hg, h1, h2, h3, h4⟩
  · exact Or.inl ⟨h0, rfl⟩
  · exact Or.inr ⟨g, _, cap, cur, hv, hg, h1, h2, h3, Nat.zero_le _, fun j hj => by omega⟩
theorem RowU.alk {w : World} {base : Nat} {V : Value} {es : List Nat} (h : RowU w base V es) (c : List Value) : Alk 44 1 w c 0 V := by
  rcases h.2 with ⟨h0, h1⟩ | ⟨g, cap, cur, hv, _, hg, h1, h2, h3, h4⟩
  · exact Or.inl ⟨h0, rfl⟩
  · exact Or.inr ⟨g, _, cap, cur, hv, hg, h1, h2, h3, Nat.zero_le _, fun j hj => by omega⟩
/-- an element that lies in a list all alike -/
theorem Alk.nth {T : TypeId} {z : Nat} {u : World} {c : List Value} {m : Nat} {a : Option Addr} {n cap : Nat} (h : Alk T z u c m (.slice a n cap)) (hc : c.length = z) {t : Nat} (ht : t < m) : ∃ g, a = some ⟨g, 0, none⟩ ∧ ∀ k v, c[k]? = some v → u.cell? ⟨g, t * z + k, none⟩ = some v ∧ u.frozen? ⟨g, t * z + k, none⟩ = false := by
  rcases h with ⟨_, h⟩ | ⟨g, n', cap', cur, hv, hg, h1, h2, h3, h4, h5⟩
  · omega
  · cases hv
    refine ⟨g, rfl, fun k v hk => ?_⟩
    have hkl : k < z := by rw [← hc]; exact (List.getElem?_eq_some_iff.1 hk).1
    have hlt : t * z + k < m * z := by
      have e : (t + 1) * z ≤ m * z := Nat.mul_le_mul_right _ ht
      rw [Nat.add_mul, Nat.one_mul] at e
      omega
    have e := h5 _ hlt
    rw [mod_at (m := t) (by omega) (by omega), Nat.add_sub_cancel_left, hk] at e
    exact ⟨by simp [World.cell?, hg, e], by simp [World.frozen?, hg]⟩
/-- where the list lies, also one not yet written over -/
theorem Alk.lies {T : TypeId} {z : Nat} {u : World} {c : List Value} {m : Nat} {a : Option Addr} {n cap : Nat} (h : Alk T z u c m (.slice a n cap)) (hn : 0 < n) : ∃ g cur, a = some ⟨g, 0, none⟩ ∧ u.heap[g]? = some (.cells cur T (0, 0)) ∧ n ≤ cap ∧ cur.size = cap * z := by
  rcases h with ⟨h, _⟩ | ⟨g, n', cap', cur, hv, hg, h1, h2, h3, h4, h5⟩
  · cases h; omega
  · cases hv
    exact ⟨g, cur, rfl, hg, h1, h3⟩
/-! ### what stands beside -/
structure Kc where
  w0 : World
  N0 : Nat
  A : Nat
  B : Nat
  X : Nat
  Y : Nat
  W : Nat
  LB : Nat
  a : Nf
  b : Nf
  x : Nf
  y : Nf
  v : Nf
  xs : List Nf
  mA : Ma
  mB : Ma
  mD : Ma
  D : Nat → Prop
  hD0 : ∀ k, D k → w0.heap.size ≤ k
  hD1 : ∀ k, N0 ≤ k → D k
structure Stay (K : Kc) (u : World) : Prop where
  low : Below K.w0.heap.size K.w0 u
  big : K.N0 ≤ u.heap.size
  na : NFB u K.A K.a
  nb : NFB u K.B K.b
  nx : NFB u K.X K.x
  ny : NFB u K.Y K.y
  nv : NFB u K.W K.v
  cx : Cop (fun b => ¬ K.D b) u K.mA K.x
  cy : Cop (fun b => ¬ K.D b) u K.mB K.y
  cv : Cop (fun b => ¬ K.D b) u K.mD K.v
  la : u.heap[K.LB]? = .some (.cells (flatM K.xs).toArray 38 (0, 0))
section
variable {K : Kc} {u u' : World}
theorem Stay.own (h : Stay K u) {r : Option Nat} (hg : u.grownBy u' r) (hr : ∀ k, r = .some k → K.D k ∧ ∃ S, TyB u S k ∧ S ≠ 38) : Stay K u' := by
  have hn : ∀ {b : Nat}, TyB u 38 b → u'.heap[b]? = u.heap[b]? := fun {b} hb => hg.block b (by obtain ⟨c, z, e⟩ := hb; exact (Array.getElem?_eq_some_iff.1 e).1) (fun e => by obtain ⟨_, S, h1, h2⟩ := hr b e.symm; exact h2 (TyB.ne h1 hb))
  have hd : ∀ b, ¬ K.D b → b < u.heap.size → u'.heap[b]? = u.heap[b]? := fun b hb hlt => hg.block b hlt (fun e => hb (hr b e.symm).1)
  exact ⟨⟨hg.os.trans h.low.os, hg.tape.trans h.low.tape, hg.output.trans h.low.output, Nat.le_trans h.low.size hg.size, fun k hk => (hd k (fun q => absurd (K.hD0 k q) (by omega)) (Nat.lt_of_lt_of_le hk h.low.size)).trans (h.low.block k hk)⟩, Nat.le_trans h.big hg.size, (hn h.na.ty).trans h.na, (hn h.nb.ty).trans h.nb, (hn h.nx.ty).trans h.nx, (hn h.ny.ty).trans h.ny, (hn h.nv.ty).trans h.nv, h.cx.keep (fun _ h _ => h) hd, h.cy.keep (fun _ h _ => h) hd, h.cv.keep (fun _ h _ => h) hd, (hn ⟨_, _, h.la⟩).trans h.la⟩
theorem Stay.later (h : Stay K u) (hb : Below u.heap.size u u') : Stay K u' :=
  h.own (r := none) ⟨hb.os, hb.tape, hb.output, hb.size, fun k hk _ => hb.block k hk⟩ (fun k e => by cases e)
theorem Stay.hD (h : Stay K u) : ∀ b, u.heap.size ≤ b → K.D b := fun b hb => K.hD1 b (Nat.le_trans h.big hb)
end
/-- THE STATE: what stands, the two families. -/
structure Sf (K : Kc) (u : World) (F G : Nat → Nat → Value → Prop) : Prop where
  st : Stay K u
  fe : FamE K.D u F
  fu : FamU K.D u G
section
variable {K : Kc} {u u' : World} {F G : Nat → Nat → Value → Prop}
theorem Sf.later (h : Sf K u F G) (hb : Below u.heap.size u u') : Sf K u' F G := ⟨h.st.later hb, h.fe.later hb, h.fu.later hb⟩
theorem egs_len (i : Nat) : (egs i).length = 7 := rfl
theorem wgs_len (i : Nat) : (wgs i).length = 1 := rfl
/-- an edge written over -/
theorem Sf.putE (h : Sf K u F G) {i m g n cap : Nat} (hF : F i m (.slice (some ⟨g, 0, none⟩) n cap)) (hm : m < n) : Sf K (u.setCells g (m * 7) (egs i)) (Fadd F i (m + 1) (.slice (some ⟨g, 0, none⟩) n cap)) G := by
  obtain ⟨h1, h2, h3, h4⟩ := h.fe.put (egs_len i) hF hm
  exact ⟨h.st.own h2 (fun k e => by cases e; exact ⟨h3, _, h4, by decide⟩), h1, h.fu.other h2 (fun k e => by cases e; exact ⟨_, h4, by decide⟩)⟩
theorem Sf.putU (h : Sf K u F G) {i m g n cap : Nat} (hF : G i m (.slice (some ⟨g, 0, none⟩) n cap)) (hm : m < n) : Sf K (u.setCells g (m * 1) (wgs i)) F (Fadd G i (m + 1) (.slice (some ⟨g, 0, none⟩) n cap)) := by
  obtain ⟨h1, h2, h3, h4⟩ := h.fu.put (wgs_len i) hF hm
  exact ⟨h.st.own h2 (fun k e => by cases e; exact ⟨h3, _, h4, by decide⟩), h.fe.other h2 (fun k e => by cases e; exact ⟨_, h4, by decide⟩), h1⟩
end
theorem egs_one (i : Nat) : ∀ u ∈ egs i, u.oneCell' = true := by
  intro u hu
  simp [egs] at hu
  rcases hu with rfl | rfl | rfl <;> rfl
theorem wgs_one (i : Nat) : ∀ u ∈ wgs i, u.oneCell' = true := by
  intro u hu
  simp [wgs] at hu
  subst hu
  rfl
/-- one edge more -/
theorem wpList_append_egs {w : World} {ops : Array Oper} {rest : List Oper} {o : Oper} {a : Act} {Q : Exit → Act → World → Prop} (hgd : o.guard = none) (s y : Operand)
    (ho : o.op = .call { callee := .builtin .append, args := #[s, y], argTypes := #[35, 35] })
    {K : Kc} {F G : Nat → Nat → Value → Prop} (hS : Sf K w F G) (i : Nat) (ad : Option Addr) (n cap : Nat) (hs : a.eval s = .slice ad n cap) (hF : F i n (.slice ad n cap)) (hl : n ≤ 1000000) (a2 : Addr) (k : Nat) (hy : a.eval y = .slice (some a2) 1 k) (hc : ∀ j v, (egs i)[j]? = some v → w.cell? (a2.add j) = some v)
    (h : ∀ g cap' w', Sf K w' (Fadd F i (n + 1) (.slice (some ⟨g, 0, none⟩) (n + 1) cap')) G → (∃ r, w.grownBy w' r ∧ ∀ k, r = some k → TyB w 57 k) → wpList Try.prog ops Q rest (a.put o.dst (.slice (some ⟨g, 0, none⟩) (n + 1) cap')) w') : wpList Try.prog ops Q (o :: rest) a w := by
  refine wpList_plain hgd fun K hK => ?_
  obtain ⟨i0, hi, hz0, hz1, hz2⟩ := info_parts infoE
  obtain ⟨g, cap', w', hr, h1, h2, h3⟩ := run_append_alk w 35 o.type 57 i0 _ 7 56 Try.underlying35 hi hz0 hz1 hz2 rfl (by decide) (by decide) (egs i) rfl (egs_one i) ad n cap (hS.fe.al _ _ _ hF) hl a2 k hc
  obtain ⟨f1, r, f2, f3⟩ := hS.fe.more hS.st.hD hF h1 h2 h3
  unfold Oper.wp execOp
  simp only [ho, resolve, invoke, builtin, Sem.run_bind, Sem.run_pure, Result.andThen_ok, List.map_toArray, List.map_cons, List.map_nil, hs, hy, hr]
  exact hK _ _ (h g cap' w' ⟨hS.st.own f2 (fun k e => ⟨(f3 k e).1, _, (f3 k e).2, by decide⟩), f1, hS.fu.other f2 (fun k e => ⟨_, (f3 k e).2, by decide⟩)⟩ ⟨r, f2, fun k e => (f3 k e).2⟩)
theorem wpList_append_wgs {w : World} {ops : Array Oper} {rest : List Oper} {o : Oper} {a : Act} {Q : Exit → Act → World → Prop} (hgd : o.guard = none) (s y : Operand)
    (ho : o.op = .call { callee := .builtin .append, args := #[s, y], argTypes := #[36, 36] })
    {K : Kc} {F G : Nat → Nat → Value → Prop} (hS : Sf K w F G) (i : Nat) (ad : Option Addr) (n cap : Nat) (hs : a.eval s = .slice ad n cap) (hF : G i n (.slice ad n cap)) (hl : n ≤ 1000000) (a2 : Addr) (k : Nat) (hy : a.eval y = .slice (some a2) 1 k) (hc : ∀ j v, (wgs i)[j]? = some v → w.cell? (a2.add j) = some v)
    (h : ∀ g cap' w', Sf K w' F (Fadd G i (n + 1) (.slice (some ⟨g, 0, none⟩) (n + 1) cap')) → (∃ r, w.grownBy w' r ∧ ∀ k, r = some k → TyB w 44 k) → wpList Try.prog ops Q rest (a.put o.dst (.slice (some ⟨g, 0, none⟩) (n + 1) cap')) w') : wpList Try.prog ops Q (o :: rest) a w := by
  refine wpList_plain hgd fun K hK => ?_
  obtain ⟨i0, hi, hz0, hz1, hz2⟩ := info_parts infoU
  obtain ⟨g, cap', w', hr, h1, h2, h3⟩ := run_append_alk w 36 o.type 44 i0 _ 1 4 Try.underlying36 hi hz0 hz1 hz2 rfl (by decide) (by decide) (wgs i) rfl (wgs_one i) ad n cap (hS.fu.al _ _ _ hF) hl a2 k hc
  obtain ⟨f1, r, f2, f3⟩ := hS.fu.more hS.st.hD hF h1 h2 h3
  unfold Oper.wp execOp
  simp only [ho, resolve, invoke, builtin, Sem.run_bind, Sem.run_pure, Result.andThen_ok, List.map_toArray, List.map_cons, List.map_nil, hs, hy, hr]
  exact hK _ _ (h g cap' w' ⟨hS.st.own f2 (fun k e => ⟨(f3 k e).1, _, (f3 k e).2, by decide⟩), hS.fe.other f2 (fun k e => ⟨_, (f3 k e).2, by decide⟩), f1⟩ ⟨r, f2, fun k e => (f3 k e).2⟩)
end Go.Proofs.Ytjmbimgofceanaa

