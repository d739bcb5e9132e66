/- Parse, deepCopy and same, as EreOwn calls them: one tree for each string. -/
import Derived.Test.YtlcnmfgmgiijpaaG67
import Derived.Test.YtlcnmfgmgiijpaaG65
import Derived.Test.YtlcnmfgmgiijpaaG66
import Derived.Test.YtlcnmfgmgiijpaaG24
import Derived.Deep.DeepAppendRoom
import Derived.Test.YtlcnmfgmgiijpaaG41
namespace Go.Proofs.Ytlcnmfgmgiijpaa
open Go.RowKit

/-- what Parse answers: the tree that is read, or the zero tree -/
def treeOf (p : ByteArray) : Tr := match parseOf p with
  | .ok t _ => t
  | _ => .mk 0 Oct.none [] 0 0
theorem tree_sm (p : ByteArray) : Sm 100000 (treeOf p) := by
  unfold treeOf
  split
  · rename_i t j h
    obtain ⟨_, _, _, _, hg, _⟩ := parse_ok h
    exact good_sm (N := 1025) (by decide) (by decide) t hg
  · exact .mk _ _ _ _ _ (by simp) (fun i t h => by simp at h)
theorem tree_nl (p : ByteArray) : nl (treeOf p) ≤ 3000 := by
  unfold treeOf
  split
  · rename_i t j h
    exact nl_parse h
  · rw [nl_leaf]; decide
theorem tree_in {X : Nat → Prop} {w : World} {t : Tr} {x : Nd} (h : NodeAt X w t x) : Sm 100000 t → InAt w (up t) x := by
  induction h with
  | mk k s subs mn mx a n c vs hn hl hr hs ih =>
    intro hg
    have g1 := hg.len
    rw [up_mk]
    refine .mk k s (subs.map up) mn mx a n c vs (by simp [hn]) hl (by omega) (hr.keep (fun _ _ _ => trivial) (fun _ _ _ => rfl)) (fun i t v ht hv => ?_)
    rw [List.getElem?_map] at ht
    cases hsi : subs[i]? with
    | none => rw [hsi] at ht; cases ht
    | some u =>
      rw [hsi] at ht
      cases ht
      exact ih i u v hsi hv (hg.sub hsi)
theorem own_parse (p : ByteArray) (w : World) (gm : GM w) : Calls Try.prog 9 #[.string p] w fun e w' => Below w.heap.size w w' ∧ ∃ (x : Nd) (a c : Int), e = .returned (.tuple #[x.val, .int .i64 a, .int .i64 c]) ∧ Ow.NodeAt (fun b => w.heap.size ≤ b ∧ b < w'.heap.size) w' (treeOf p) x := by
  refine (Ow.Parse_any p w gm).mono ?_
  intro e w' h
  unfold Ow.ParsePost at h
  obtain ⟨hb, h⟩ := h
  refine ⟨hb, ?_⟩
  unfold treeOf
  cases hc : parseOf p with
  | out => rw [hc] at h; exact h.elim
  | bad i c =>
    rw [hc] at h
    exact ⟨zeroNd, _, _, h, Ow.NodeAt.leaf _ _ _ _ _ _ _ _⟩
  | ok t j =>
    rw [hc] at h
    obtain ⟨x, h1, h2⟩ := h
    exact ⟨x, _, _, h1, h2.keep (fun b hb hlt => ⟨hb, hlt⟩) (fun _ _ _ => rfl)⟩
theorem own_same {X Y : Nat → Prop} {w : World} {p : ByteArray} {x y : Nd} (hx : NodeAt X w (treeOf p) x) (hy : NodeAt Y w (treeOf p) y) : Calls Try.prog 12 #[x.val, y.val] w fun e w' => e = .returned (.bool true) ∧ Below w.heap.size w w' :=
  (same_any (tree_in hx (tree_sm p)) _ _ (tree_in hy (tree_sm p)) w (Below.refl _ _)).mono (fun _ _ h => ⟨by rw [h.1, sameT_refl], h.2⟩)
theorem own_copy {X : Nat → Prop} {w : World} {p : ByteArray} {x : Nd} (hx : NodeAt X w (treeOf p) x) : Calls Try.prog 11 #[x.val] w fun e w' => (∃ y : Nd, e = .returned y.val ∧ NodeAt (fun b => w.heap.size ≤ b ∧ b < w'.heap.size) w' (treeOf p) y) ∧ Below w.heap.size w w' :=
  (copy_any hx (tree_sm p) w (Below.refl _ _)).mono (fun _ _ h => ⟨h.1.imp fun _ h => ⟨h.1, h.2.keep (fun _ hb hlt => ⟨hb, hlt⟩) (fun _ _ _ => rfl)⟩, h.2⟩)
/-- WHAT STANDS: all but so many blocks. -/
structure Fx (S : Nat → Prop) (w w' : World) : Prop where
  os : w'.os = w.os
  tape : w'.tape = w.tape
  output : w'.output = w.output
  size : w.heap.size ≤ w'.heap.size
  block : ∀ k, k < w.heap.size → ¬ S k → w'.heap[k]? = w.heap[k]?
section
variable {S T : Nat → Prop} {w u w' : World}
theorem Fx.refl (S : Nat → Prop) (w : World) : Fx S w w := ⟨rfl, rfl, rfl, Nat.le_refl _, fun _ _ _ => rfl⟩
theorem Fx.trans (h : Fx S w u) (h2 : Fx T u w') (hT : ∀ k, k < w.heap.size → T k → S k) : Fx S w w' :=
  ⟨h2.os.trans h.os, h2.tape.trans h.tape, h2.output.trans h.output, Nat.le_trans h.size h2.size, fun k hk hS => (h2.block k (Nat.lt_of_lt_of_le hk h.size) (fun ht => hS (hT k hk ht))).trans (h.block k hk hS)⟩
theorem Fx.of_below {b : Nat} (h : Below b w w') (hb : ∀ k, k < w.heap.size → b ≤ k → S k) : Fx S w w' :=
  ⟨h.os, h.tape, h.output, h.size, fun k hk hS => h.block k (Nat.lt_of_not_le (fun hle => hS (hb k hk hle)))⟩
theorem Fx.below {b : Nat} (h : Fx S w w') (hb : ∀ k, S k → b ≤ k) (hbw : b ≤ w.heap.size) : Below b w w' :=
  ⟨h.os, h.tape, h.output, h.size, fun k hk => h.block k (Nat.lt_of_lt_of_le hk hbw) (fun hS => absurd (hb k hS) (by omega))⟩
theorem Fx.own {r : Option Nat} (hg : w.grownBy w' r) (hr : ∀ k, r = some k → S k) : Fx S w w' :=
  ⟨hg.os, hg.tape, hg.output, hg.size, fun k hk ht => hg.block k hk (fun e => ht (hr k e.symm))⟩
theorem below_put8at (w : World) (A o k : Nat) : Below A w (put8at w A o k) :=
  (((((((((Below.refl A w).setCell (p := ⟨A, o, none⟩) (Nat.le_refl _) _).setCell (p := ⟨A, o + 1, none⟩) (Nat.le_refl _) _).setCell (p := ⟨A, o + 2, none⟩) (Nat.le_refl _) _).setCell (p := ⟨A, o + 3, none⟩) (Nat.le_refl _) _).setCell (p := ⟨A, o + 4, none⟩) (Nat.le_refl _) _).setCell (p := ⟨A, o + 5, none⟩) (Nat.le_refl _) _).setCell (p := ⟨A, o + 6, none⟩) (Nat.le_refl _) _).setCell (p := ⟨A, o + 7, none⟩) (Nat.le_refl _) _)
theorem Fx.put (w : World) (A o k : Nat) (hA : S A) : Fx S w (put8at w A o k) :=
  ⟨(below_put8at w A o k).os, (below_put8at w A o k).tape, (below_put8at w A o k).output, (below_put8at w A o k).size, fun b _ hS => heap_put8at w A o k b (fun e => hS (e ▸ hA))⟩
end
end Go.Proofs.Ytlcnmfgmgiijpaa

/- One node more upon a list that is all alike: in its block, or in a new one while the old one stands. -/
namespace Go.Proofs.Ytlcnmfgmgiijpaa
open Go.RowKit Go.Deep

theorem Full.row {w : World} {l : Ls} {k : Nat} (h : Full w l l.n k) : w.ownsRow 0 28 8 l.val l.n (flatN (List.replicate l.n (mk1 k))) := by
  obtain ⟨cur, hg, h1, h2, h3, h4, h5⟩ := h
  exact ⟨by rw [flatN_length, List.length_replicate, Nat.mul_comm], Or.inr ⟨l.g, l.c, cur, rfl, Nat.zero_le _, hg, h1, h2, h3, h5⟩⟩
theorem full_of_row {w : World} {g n c k : Nat} (h : w.ownsRow 0 28 8 (.slice (some ⟨g, 0, none⟩) n c) n (flatN (List.replicate n (mk1 k)))) : Full w ⟨g, n, c⟩ n k := by
  rcases h.2 with ⟨h0, _⟩ | ⟨g', c', cur, hv, _, hg, h1, h2, h3, h4⟩
  · cases h0
  · cases hv
    exact ⟨cur, hg, h1, h2, h3, Nat.le_refl _, h4⟩
theorem flatN_rep_take (n m k : Nat) (h : m ≤ n) : (flatN (List.replicate n (mk1 k))).take (m * 8) = flatN (List.replicate m (mk1 k)) := by
  obtain ⟨d, rfl⟩ : ∃ d, n = m + d := ⟨n - m, by omega⟩
  rw [← List.replicate_append_replicate, flatN_append]
  exact List.take_left' (by rw [flatN_length, List.length_replicate, Nat.mul_comm])
theorem Full.shrink {w : World} {l l' : Ls} {k : Nat} (h : Full w l l.n k) (hg : l'.g = l.g) (hc : l'.c = l.c) (hn : l'.n ≤ l.n) : Full w l' l'.n k := by
  obtain ⟨cur, h0, h1, h2, h3, h4, h5⟩ := h
  refine ⟨cur, by rw [hg]; exact h0, by omega, by omega, by rw [hc]; exact h3, Nat.le_refl _, ?_⟩
  rw [← flatN_rep_take l.n l'.n k hn, ← h5, List.take_take, Nat.min_eq_left (by omega)]
/-- what an append of one node leaves -/
def More (w w' : World) (l l' : Ls) : Prop := l'.g = l.g ∧ l'.c = l.c ∧ w.grownBy w' (some l.g) ∨ l'.g = w.heap.size ∧ w.grownBy w' none
theorem run_append_more (w : World) (ty : TypeId) (l : Ls) (k : Nat) (h : Full w l l.n k) (ad : Addr) (cap : Nat) (hc : ∀ j v, (mk1 k).cells[j]? = some v → w.cell? (ad.add j) = some v) (hl : l.n ≤ 1000000) :
    ∃ (l' : Ls) (w' : World), (Builtin.append_ #[26, 26] ty #[l.val, .slice (some ad) 1 cap]).run Try.prog w = .ok l'.val w' ∧ l'.n = l.n + 1 ∧ Full w' l' l'.n k ∧ More w w' l l' := by
  obtain ⟨i0, hi, hz0, hz1, hz2⟩ := info_parts info28
  have hone : ∀ u ∈ (mk1 k).cells, u.oneCell' = true := by have := flatN_one [mk1 k]; simpa [flatN] using this
  have hrow := h.row
  by_cases hroom : l.n + 1 ≤ l.c
  · obtain ⟨w', hr, ho, hg⟩ := run_append_own_spare (P := Try.prog) w 0 26 ty 28 i0 8 Try.underlying26 hi hz1 l.g l.n l.c _ hrow ad 1 cap (mk1 k).cells rfl hc hone hroom
    rw [← flatN_more] at ho
    exact ⟨⟨l.g, l.n + 1, l.c⟩, w', hr, rfl, full_of_row ho, Or.inl ⟨rfl, rfl, hg⟩⟩
  · have holds : ∀ j u, (flatN (List.replicate l.n (mk1 k)))[j]? = some u → w.cell? ((⟨l.g, 0, none⟩ : Addr).add j) = some u := hrow.cells (g := l.g) rfl
    have hlen := hrow.1
    have hr := run_append_grow (P := Try.prog) w 26 ty 28 i0 _ Try.underlying26 hi hz0 ⟨l.g, 0, none⟩ l.n l.c _ (by rw [hz1]; exact hlen) holds ad 1 cap (mk1 k).cells (by rw [hz1]; rfl) hc (by omega) (by omega) (by
      rw [hz2]
      have h1 := nextslicecap_le (need := l.n + 1) (old := l.c) (by omega)
      have h2 : Builtin.nextslicecap (l.n + 1) l.c * 80 ≤ (2 * (l.n + 1)) * 80 := Nat.mul_le_mul_right _ h1
      omega)
    have hge := grownCap_ge w (l.n + 1) l.c 28
    have hcm : grownCap w (l.n + 1) l.c 28 ≤ maxLen := grownCap_le_maxLen w (l.n + 1) l.c 28 (by simp only [maxLen]; omega)
    refine ⟨⟨w.heap.size, l.n + 1, grownCap w (l.n + 1) l.c 28⟩, _, hr, rfl, ⟨_, heap_alloc_new w.drew _, hge, hcm, ?_, Nat.le_refl _, ?_⟩, Or.inr ⟨rfl, ⟨rfl, rfl, rfl, by simp, fun _ hk _ => heap_alloc_old w.drew _ hk⟩⟩⟩
    · simp only [Array.size_append, List.size_toArray, size_zeroCells, hlen]
      have e1 : (mk1 k).cells.length = 8 := rfl
      have e2 : (Value.agg #[.int .i64 0, .int .u64 0, .int .u64 0, .int .u64 0, .int .u64 0, .slice none 0 0, .int .i64 0, .int .i64 0]).cells.size = 8 := rfl
      rw [e1, e2]
      omega
    · simp only [Array.toList_append, List.append_assoc]
      rw [← List.append_assoc, ← flatN_more]
      exact List.take_left' (by rw [flatN_length, List.length_replicate, Nat.mul_comm])
theorem wpList_append_more {w : World} {ops : Array Oper} {rest : List Oper} {o : Oper} {a : Act} {Q : Exit → Act → World → Prop} (hgd : o.guard = none) (s y : Operand)
    (ho : o.op = .call { callee := .builtin .append, args := #[s, y], argTypes := #[26, 26] })
    (l : Ls) (k : Nat) (hs : a.eval s = l.val) (hn : Full w l l.n k) (ad : Addr) (cap : Nat) (hy : a.eval y = .slice (some ad) 1 cap) (hc : ∀ j v, (mk1 k).cells[j]? = some v → w.cell? (ad.add j) = some v) (hl : l.n ≤ 1000000)
    (h : ∀ l' w', l'.n = l.n + 1 → Full w' l' l'.n k → More w w' l l' → wpList Try.prog ops Q rest (a.put o.dst l'.val) w') : wpList Try.prog ops Q (o :: rest) a w := by
  refine wpList_plain hgd fun K hK => ?_
  obtain ⟨l', w', hr, h2, h3, h4⟩ := run_append_more w o.type l k hn ad cap hc hl
  unfold Oper.wp execOp
  simp only [ho, resolve, invoke, builtin, Sem.run_bind, Sem.run_pure, Result.andThen_ok, List.map_toArray, List.map_cons, List.map_nil, hs, hy, hr]
  exact hK _ _ (h l' w' h2 h3 h4)
end Go.Proofs.Ytlcnmfgmgiijpaa

/- A row of lists that is read; all lists of a row written. -/
namespace Go.Proofs.Ytlcnmfgmgiijpaa
open Go.RowKit

/-- A ROW OF LISTS, as it is read; where its block lies. -/
def Rdl (u : World) (a : Option Addr) (lo hi : Nat) (L : List Ls) : Prop := L = [] ∨ ∃ g, a = some ⟨g, 0, none⟩ ∧ lo ≤ g ∧ g < hi ∧ ∀ (j : Nat) (l : Ls), L[j]? = some l → u.cell? ⟨g, j, none⟩ = some l.val
theorem Rdl.keep {u w' : World} {a : Option Addr} {lo hi : Nat} {L : List Ls} (h : Rdl u a lo hi L) (hk : ∀ b, lo ≤ b → b < hi → w'.heap[b]? = u.heap[b]?) : Rdl w' a lo hi L := by
  rcases h with h | ⟨g, ha, h1, h2, h3⟩
  · exact Or.inl h
  · exact Or.inr ⟨g, ha, h1, h2, fun j l hl => (World.cell?_of_block (a := ⟨g, j, none⟩) (hk g h1 h2)).trans (h3 j l hl)⟩
theorem Rdl.take {u : World} {a : Option Addr} {lo hi : Nat} {L : List Ls} (h : Rdl u a lo hi L) (n : Nat) : Rdl u a lo hi (L.take n) := by
  rcases h with h | ⟨g, ha, h1, h2, h3⟩
  · exact Or.inl (by rw [h]; simp)
  · exact Or.inr ⟨g, ha, h1, h2, fun j l hl => h3 j l (by
      rw [List.getElem?_take] at hl
      split at hl
      · exact hl
      · cases hl)⟩
theorem Rdl.at {u : World} {a : Option Addr} {lo hi : Nat} {L : List Ls} (h : Rdl u a lo hi L) {j : Nat} {l : Ls} (hl : L[j]? = some l) : ∃ g, a = some ⟨g, 0, none⟩ ∧ u.cell? ⟨g, j, none⟩ = some (.slice (some ⟨l.g, 0, none⟩) l.n l.c) := by
  rcases h with h | ⟨g, ha, h1, h2, h3⟩
  · rw [h] at hl; cases hl
  · exact ⟨g, ha, h3 j l hl⟩
theorem Rowl.form {w : World} {base : Nat} {V : Value} {L : List Ls} (h : Rowl w base V L) : ∃ (a : Option Addr) (c : Nat), V = .slice a L.length c ∧ L.length ≤ c ∧ c ≤ maxLen ∧ Rdl w a base w.heap.size L := by
  rcases h.2 with ⟨hv, hn⟩ | ⟨g, cap, cur, hv, hbg, hg, h1, h2, h3, h4⟩
  · exact ⟨none, 0, by rw [hv, hn], by omega, by decide, Or.inl (List.length_eq_zero_iff.1 hn)⟩
  · refine ⟨some ⟨g, 0, none⟩, cap, hv, h1, h2, Or.inr ⟨g, rfl, hbg, (Array.getElem?_eq_some_iff.1 hg).1, fun j l hl => ?_⟩⟩
    have hj := (List.getElem?_eq_some_iff.1 hl).1
    have e : (L.map Ls.val)[j]? = some l.val := by rw [List.getElem?_map, hl]; rfl
    rw [← h4, List.getElem?_take_of_lt (by omega)] at e
    simp only [World.cell?, hg]
    simpa using e
theorem Full.zero {w : World} {l : Ls} {m k : Nat} (h : Full w l m k) : Full w l 0 k := by
  obtain ⟨cur, hg, h1, h2, h3, _, _⟩ := h
  exact ⟨cur, hg, h1, h2, h3, Nat.zero_le _, by simp [flatN]⟩
theorem Full.there {w : World} {l : Ls} {m k : Nat} (h : Full w l m k) {r : Nat} (hr : r < l.n) (i : Nat) (hi : i < 8) : ∃ v, w.cell? ⟨l.g, r * 8 + i, none⟩ = some v := by
  obtain ⟨cur, hg, h1, h2, h3, _, _⟩ := h
  simp only [World.cell?, hg]
  exact ⟨_, Array.getElem?_eq_getElem (by omega)⟩
theorem Full.thaw {w : World} {l : Ls} {m k : Nat} (h : Full w l m k) (j : Nat) : w.frozen? ⟨l.g, j, none⟩ = false := by
  obtain ⟨cur, hg, _⟩ := h
  simp [World.frozen?, hg]
/-- ALL LISTS OF A ROW, the first of them written. -/
def Wr (u : World) (L : List Ls) (m : Nat) : Prop := ∀ (j : Nat) (l : Ls), L[j]? = some l → ∃ r, Full u l r (100 + j) ∧ (j < m → r = l.n)
theorem wr_start {u : World} {L : List Ls} (h : ∀ l ∈ L, OwnB u l) : Wr u L 0 := fun _ l hl => ⟨0, (h l (List.mem_of_getElem? hl)).full _, fun h => absurd h (Nat.not_lt_zero _)⟩
theorem nodup_at {L : List Ls} (h : (L.map Ls.g).Nodup) {i j : Nat} {a b : Ls} (ha : L[i]? = some a) (hb : L[j]? = some b) (e : a.g = b.g) : i = j := by
  have hi := (List.getElem?_eq_some_iff.1 ha).1
  have e1 : (L.map Ls.g)[i]? = some a.g := by rw [List.getElem?_map, ha]; rfl
  have e2 : (L.map Ls.g)[j]? = some a.g := by rw [List.getElem?_map, hb, e]; rfl
  exact (List.getElem?_inj (by simpa using hi) h).1 (e1.trans e2.symm)
/-- the next list written too, all others standing -/
theorem Wr.next {u u' : World} {L : List Ls} {m : Nat} {l : Ls} (h : Wr u L m) (hl : L[m]? = some l) (hn : (L.map Ls.g).Nodup) (hf : Full u' l l.n (100 + m)) (hk : ∀ b, b < u.heap.size → b ≠ l.g → u'.heap[b]? = u.heap[b]?) : Wr u' L (m + 1) := by
  intro j l' hl'
  by_cases hj : j = m
  · subst hj
    rw [hl] at hl'
    cases hl'
    exact ⟨l.n, hf, fun _ => rfl⟩
  · obtain ⟨r, h1, h2⟩ := h j l' hl'
    have hne : l'.g ≠ l.g := fun e => hj (nodup_at hn hl' hl e)
    have hlt : l'.g < u.heap.size := by obtain ⟨cur, hg, _⟩ := h1; exact (Array.getElem?_eq_some_iff.1 hg).1
    exact ⟨r, Full.same h1 (hk l'.g hlt hne), fun h => h2 (by omega)⟩
theorem GL.few {w : World} {x : Nd} {L : List Ls} (h : GL w x L) : ∀ l ∈ L, l.n ≤ 100000 := by
  induction h with
  | mk x vs Ls_ hl hl2 hm hr hsub own ho ih =>
    intro l hl3
    rcases List.mem_append.1 hl3 with h | h
    · obtain ⟨L, hL, hlL⟩ := List.mem_flatten.1 h
      obtain ⟨i, hi, rfl⟩ := List.getElem_of_mem hL
      exact ih i vs[i] _ (List.getElem?_eq_getElem (by omega)) (List.getElem?_eq_getElem hi) l hlL
    · rcases ho with ⟨h1, _⟩ | ⟨g, _, _, h1⟩
      · rw [h1] at h; cases h
      · rw [h1] at h
        simp at h
        subst h
        exact hm
/-- THE LONG LISTS: each all alike, in its list's block or in a new one. -/
def Lo (u : World) (L M : List Ls) (e : Nat) : Prop := (∀ (j : Nat) (l : Ls), L[j]? = some l → Full u l l.n (100 + j)) ∧ ∀ (j : Nat) (k : Ls), M[j]? = some k → Full u k k.n (100 + j) ∧ k.n ≤ 1000000 ∧ (∃ l, L[j]? = some l ∧ k.g = l.g ∨ e ≤ k.g)
theorem Full.lt {w : World} {l : Ls} {m k : Nat} (h : Full w l m k) : l.g < w.heap.size := by
  obtain ⟨cur, hg, _⟩ := h
  exact (Array.getElem?_eq_some_iff.1 hg).1
theorem Full.ty {w : World} {l : Ls} {m k : Nat} (h : Full w l m k) : TyB w 28 l.g := by
  obtain ⟨cur, hg, _⟩ := h
  exact ⟨_, _, hg⟩
theorem Lo.keep {u u' : World} {L M : List Ls} {e : Nat} (h : Lo u L M e) (hk : ∀ b, b < u.heap.size → TyB u 28 b → u'.heap[b]? = u.heap[b]?) : Lo u' L M e :=
  ⟨fun j l hl => (h.1 j l hl).same (hk _ (h.1 j l hl).lt (h.1 j l hl).ty), fun j k hl => ⟨(h.2 j k hl).1.same (hk _ (h.2 j k hl).1.lt (h.2 j k hl).1.ty), (h.2 j k hl).2⟩⟩
/-- one long list more -/
theorem Lo.next {u u' : World} {L M : List Ls} {e : Nat} {l k : Ls} (h : Lo u L M e) (hn : (L.map Ls.g).Nodup) (hl : L[M.length]? = some l) (he : l.g < e) (hf : Full u' l l.n (100 + M.length)) (hf2 : Full u' k k.n (100 + M.length)) (hk2 : k.n ≤ 1000000) (hg : k.g = l.g ∨ e ≤ k.g) (hk : ∀ b, b < u.heap.size → b ≠ l.g → u'.heap[b]? = u.heap[b]?) : Lo u' L (M ++ [k]) e := by
  refine ⟨fun j l' hl' => ?_, fun j k' hk' => ?_⟩
  · by_cases hj : j = M.length
    · subst hj
      rw [hl] at hl'
      cases hl'
      exact hf
    · exact (h.1 j l' hl').same (hk _ (h.1 j l' hl').lt (fun e => hj (nodup_at hn hl' hl e)))
  · by_cases hj : j < M.length
    · rw [List.getElem?_append_left hj] at hk'
      obtain ⟨h1, h2, h3⟩ := h.2 j k' hk'
      refine ⟨h1.same (hk _ h1.lt (fun e' => ?_)), h2, h3⟩
      obtain ⟨l', h3⟩ := h3
      rcases h3 with ⟨h3, h4⟩ | h3
      · exact absurd (nodup_at hn h3 hl (h4.symm.trans e')) (by omega)
      · omega
    · have hj2 : j = M.length := by
        have := (List.getElem?_eq_some_iff.1 hk').1
        rw [List.length_append] at this
        simp at this
        omega
      subst hj2
      rw [List.getElem?_append_right (Nat.le_refl _)] at hk'
      simp at hk'
      subst hk'
      exact ⟨hf2, hk2, l, hg.imp (fun h => ⟨hl, h⟩) id⟩
end Go.Proofs.Ytlcnmfgmgiijpaa
