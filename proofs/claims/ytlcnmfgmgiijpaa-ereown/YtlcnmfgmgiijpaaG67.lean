/- heronlaw04.gather: all lists of a tree, the innermost first. -/
import Derived.Test.YtlcnmfgmgiijpaaG61
import Derived.Test.YtlcnmfgmgiijpaaG41
import Derived.Test.YtlcnmfgmgiijpaaG66
import Derived.Deep.Slices
import Derived.Test.YtlcnmfgmgiijpaaG33
namespace Go.Proofs.Ytlcnmfgmgiijpaa
open Go.RowKit
attribute [local go_sem ↓] Go.wp_at_zero Go.wp_at_succ

/-- a list of nodes: its block, its length, its room -/
structure Ls where
  g : Nat
  n : Nat
  c : Nat
def Ls.val (l : Ls) : Value := .slice (some ⟨l.g, 0, none⟩) l.n l.c
/-- ALL LISTS OF A NODE IN MEMORY, the innermost first. -/
inductive GL (w : World) : Nd → List Ls → Prop
  | mk (x : Nd) (vs : List Nd) (Ls_ : List (List Ls)) (hl : vs.length = x.n) (hl2 : Ls_.length = x.n) (hm : x.n ≤ 100000) (hr : Ytlcnmfgmgiijpaa.RowAt (fun b => TyB w 28 b) w x.a vs) (hsub : ∀ (i : Nat) (v : Nd) (L : List Ls), vs[i]? = some v → Ls_[i]? = some L → GL w v L)
      (own : List Ls) (ho : own = [] ∧ x.n = 0 ∨ ∃ g, x.a = some ⟨g, 0, none⟩ ∧ 0 < x.n ∧ own = [⟨g, x.n, x.c⟩]) : GL w x (Ls_.flatten ++ own)
/-- A ROW OF LISTS OF THE CALL's OWN. -/
def Rowl (w : World) (base : Nat) (V : Value) (L : List Ls) : Prop := w.ownsRow base 26 1 V L.length (L.map Ls.val)
theorem rowl_nil (w : World) (base : Nat) : Rowl w base (.slice none 0 0) [] := World.ownsRow_nil w base 26 1
theorem info26 : (Try.prog.info? 26).map (fun i => (i.zero, i.size, i.bytes)) = some (some (.slice none 0 0), 1, 24) := by kernel_rfl
theorem Rowl.ty {w : World} {base : Nat} {V : Value} {L : List Ls} (h : Rowl w base V L) : ∀ b, V.ownBlock = some b → base ≤ b ∧ TyB w 26 b := by
  intro b hb
  rcases h.2 with ⟨rfl, _⟩ | ⟨g, cap, cur, rfl, hbg, hg, _⟩
  · simp [Value.ownBlock] at hb
  · simp [Value.ownBlock] at hb
    subst hb
    exact ⟨hbg, ⟨_, _, hg⟩⟩
theorem Rowl.keep {w w' : World} {base : Nat} {V : Value} {L : List Ls} (h : Rowl w base V L) (hk : ∀ b, base ≤ b → b < w.heap.size → TyB w 26 b → w'.heap[b]? = w.heap[b]?) : Rowl w' base V L := by
  refine ⟨h.1, ?_⟩
  rcases h.2 with h6 | ⟨g, cap, cur, rfl, hBg, hg, rest⟩
  · exact Or.inl h6
  · exact Or.inr ⟨g, cap, cur, rfl, hBg, (hk g hBg (Array.getElem?_eq_some_iff.1 hg).1 ⟨_, _, hg⟩).trans hg, rest⟩
theorem run_append_ls (w : World) (ty : TypeId) (base : Nat) (V : Value) (L : List Ls) (h : Rowl w base V L) (ad : Addr) (cap : Nat) (l : Ls) (hc : w.cell? ad = some l.val) (hl : L.length ≤ 1000000) (hb : base ≤ w.heap.size) :
    ∃ g cap' w', (Builtin.append_ #[34, 34] ty #[V, .slice (some ad) 1 cap]).run Try.prog w = .ok (.slice (some ⟨g, 0, none⟩) (L.length + 1) cap') w' ∧ Rowl w' base (.slice (some ⟨g, 0, none⟩) (L.length + 1) cap') (L ++ [l]) ∧ w.grownBy w' V.ownBlock ∧ (V.ownBlock = some g ∨ g = w.heap.size) := by
  obtain ⟨i0, hi, hz0, hz1, hz2⟩ := info_parts info26
  obtain ⟨g, cap', w', hr, ho, hg, hgg, hlt⟩ := run_append_lies (P := Try.prog) w 34 ty base 26 i0 _ 1 24 Try.underlying34 hi hz0 hz1 hz2 rfl (by decide) V L.length (L.map Ls.val) h ad 1 cap [l.val] rfl
    (fun j v hj => by
      cases j with
      | zero => simp at hj; subst hj; simpa [Addr.add] using hc
      | succ j => simp at hj) (fun v hv => by simp at hv; subst hv; rfl) (by decide) (by simp only [maxLen]; omega) (by omega) hb w.heap.size rfl
  refine ⟨g, cap', w', hr, ?_, hg, hgg⟩
  unfold Rowl
  rw [List.length_append, List.map_append]
  exact ho
theorem wpList_append_ls {w : World} {ops : Array Oper} {rest : List Oper} {o : Oper} {a : Act} {Q : Exit → Act → World → Prop} (hgd : o.guard = none) (s y : Operand)
    (ho : o.op = .call { callee := .builtin .append, args := #[s, y], argTypes := #[34, 34] })
    (base : Nat) (V : Value) (L : List Ls) (hs : a.eval s = V) (hn : Rowl w base V L) (ad : Addr) (cap : Nat) (l : Ls) (hy : a.eval y = .slice (some ad) 1 cap) (hc : w.cell? ad = some l.val) (hl : L.length ≤ 1000000) (hb : base ≤ w.heap.size)
    (h : ∀ g cap' w', Rowl w' base (.slice (some ⟨g, 0, none⟩) (L.length + 1) cap') (L ++ [l]) → w.grownBy w' V.ownBlock → (V.ownBlock = some g ∨ g = w.heap.size) → wpList Try.prog ops Q rest (a.put o.dst (.slice (some ⟨g, 0, none⟩) (L.length + 1) cap')) w') : wpList Try.prog ops Q (o :: rest) a w := by
  refine wpList_plain hgd fun K hK => ?_
  obtain ⟨g, cap', w', hr, h2, h3, h4⟩ := run_append_ls w o.type base V L hn ad cap l hc hl hb
  unfold Oper.wp execOp
  simp only [ho, resolve, invoke, builtin, Sem.run_bind, Sem.run_pure, Result.andThen_ok, List.map_toArray, List.map_cons, List.map_nil, hs, hy, hr]
  exact hK _ _ (h g cap' w' h2 h3 h4)
/-- WHAT A CALL LEAVES that gathers lists: all stands but, from a place on, blocks of lists. -/
structure Gf (b0 : Nat) (w w' : World) : Prop where
  os : w'.os = w.os
  tape : w'.tape = w.tape
  output : w'.output = w.output
  size : w.heap.size ≤ w'.heap.size
  block : ∀ k, k < w.heap.size → (b0 ≤ k → ¬ TyB w 26 k) → w'.heap[k]? = w.heap[k]?
section
variable {b0 : Nat} {w u w' : World}
theorem Gf.refl (b0 : Nat) (w : World) : Gf b0 w w := ⟨rfl, rfl, rfl, Nat.le_refl _, fun _ _ _ => rfl⟩
theorem Gf.trans (h : Gf b0 w u) (h2 : Gf b0 u w') : Gf b0 w w' :=
  ⟨h2.os.trans h.os, h2.tape.trans h.tape, h2.output.trans h.output, Nat.le_trans h.size h2.size, fun k hk ht => by
    have e := h.block k hk ht
    exact (h2.block k (Nat.lt_of_lt_of_le hk h.size) (fun hb ht3 => ht hb (ht3.same e.symm))).trans e⟩
theorem Gf.later (h : Gf b0 w u) (hb : Below u.heap.size u w') : Gf b0 w w' :=
  ⟨hb.os.trans h.os, hb.tape.trans h.tape, hb.output.trans h.output, Nat.le_trans h.size hb.size, fun k hk ht => (hb.block k (Nat.lt_of_lt_of_le hk h.size)).trans (h.block k hk ht)⟩
theorem Gf.own {r : Option Nat} (hg : w.grownBy w' r) (hr : ∀ k, r = some k → b0 ≤ k ∧ TyB w 26 k) : Gf b0 w w' :=
  ⟨hg.os, hg.tape, hg.output, hg.size, fun k hk ht => hg.block k hk (fun e => ht (hr k e.symm).1 (hr k e.symm).2)⟩
theorem Gf.keep (h : Gf b0 w w') {A : Nat} {c : Array Value} {t : TypeId} {z : Nat × Nat} (hA : w.heap[A]? = some (.cells c t z)) (ht : t ≠ 26) : w'.heap[A]? = some (.cells c t z) :=
  (h.block A (Array.getElem?_eq_some_iff.1 hA).1 (fun _ h3 => ht (TyB.ne ⟨c, z, hA⟩ h3))).trans hA
end
theorem GL.gf {b0 : Nat} {w w' : World} {x : Nd} {L : List Ls} (h : GL w x L) (hf : Gf b0 w w') : GL w' x L := by
  induction h with
  | mk x vs Ls_ hl hl2 hm hr hsub own ho ih =>
    have hst : ∀ b, TyB w 28 b → b < w.heap.size → w'.heap[b]? = w.heap[b]? := fun b hb hlt => hf.block b hlt (fun _ h3 => absurd (TyB.ne hb h3) (by decide))
    exact .mk x vs Ls_ hl hl2 hm (hr.keep (fun b hb hlt => hb.same (hst b hb hlt)) hst) (fun i v L hv hL => ih i v L hv hL) own ho
end Go.Proofs.Ytlcnmfgmgiijpaa

/- All lists of a tree whose lists lie each in a block of its own: their blocks are unlike. -/
namespace Go.Proofs.Ytlcnmfgmgiijpaa
open Go.RowKit Go.Deep

/-- a list's block is all its own -/
def OwnB (w : World) (l : Ls) : Prop := ∃ cur, w.heap[l.g]? = some (.cells cur 28 (0, 0)) ∧ 0 < l.n ∧ l.n ≤ l.c ∧ l.c ≤ maxLen ∧ cur.size = l.c * 8
mutual
/-- how many lists a tree has -/
def nl : Tr → Nat
  | .mk _ _ subs _ _ => nls subs + (if subs.length = 0 then 0 else 1)
def nls : List Tr → Nat
  | [] => 0
  | t :: ts => nl t + nls ts
end
theorem nls_sum : ∀ (ts : List Tr) (F : Nat → List Ls), (∀ i t, ts[i]? = some t → (F i).length = nl t) → ((List.range ts.length).map F).flatten.length = nls ts
  | [], F, _ => by simp [nls]
  | t :: ts, F, h => by
    have h0 := h 0 t rfl
    have ih := nls_sum ts (fun i => F (i + 1)) (fun i t ht => h (i + 1) t (by simpa using ht))
    rw [List.length_cons, List.range_succ_eq_map, List.map_cons, List.flatten_cons, List.length_append, h0, nls, List.map_map]
    exact congrArg _ ih
theorem glo {X : Nat → Prop} {w : World} {t : Tr} {x : Nd} (h : Ow.NodeAt X w t x) (hsm : Sm 100000 t) : ∃ L : List Ls, GL w x L ∧ (∀ l ∈ L, X l.g ∧ OwnB w l) ∧ (L.map Ls.g).Nodup ∧ L.length = nl t := by
  unfold Ow.NodeAt at h
  induction h with
  | mk X k s subs mn mx a n c vs own hn hl hr hs ih =>
    have hlen := hsm.len
    obtain ⟨F, hF⟩ := choose_lt (α := List Ls) (n := n) (p := fun i L => ∀ t v, subs[i]? = some t → vs[i]? = some v → GL w v L ∧ (∀ l ∈ L, (X l.g ∧ own l.g = i ∧ a.map Addr.block ≠ some l.g) ∧ OwnB w l) ∧ (L.map Ls.g).Nodup ∧ L.length = nl t) (fun i hi => by
      obtain ⟨t, ht⟩ : ∃ t, subs[i]? = some t := ⟨_, List.getElem?_eq_getElem (by omega)⟩
      obtain ⟨v, hv⟩ : ∃ v, vs[i]? = some v := ⟨_, List.getElem?_eq_getElem (by omega)⟩
      obtain ⟨L, h1, h2, h3, h4⟩ := ih i t v ht hv (hsm.sub ht)
      refine ⟨L, fun t' v' ht' hv' => ?_⟩
      rw [ht] at ht'
      rw [hv] at hv'
      cases ht'
      cases hv'
      exact ⟨h1, h2, h3, h4⟩)
    have hall : ∀ i, i < n → ∃ t v, subs[i]? = some t ∧ vs[i]? = some v ∧ GL w v (F i) ∧ (∀ l ∈ F i, (X l.g ∧ own l.g = i ∧ a.map Addr.block ≠ some l.g) ∧ OwnB w l) ∧ ((F i).map Ls.g).Nodup ∧ (F i).length = nl t := fun i hi => by
      obtain ⟨t, ht⟩ : ∃ t, subs[i]? = some t := ⟨_, List.getElem?_eq_getElem (by omega)⟩
      obtain ⟨v, hv⟩ : ∃ v, vs[i]? = some v := ⟨_, List.getElem?_eq_getElem (by omega)⟩
      exact ⟨t, v, ht, hv, hF i hi t v ht hv⟩
    have hflat : ∀ l ∈ ((List.range n).map F).flatten, ∃ i, i < n ∧ l ∈ F i := fun l hl => by
      obtain ⟨L, hL, hlL⟩ := List.mem_flatten.1 hl
      obtain ⟨i, hi, rfl⟩ := List.mem_map.1 hL
      exact ⟨i, List.mem_range.1 hi, hlL⟩
    have hnd : ((((List.range n).map F).flatten).map Ls.g).Nodup := by
      rw [List.map_flatten, List.map_map, List.nodup_iff_pairwise_ne, List.pairwise_flatten]
      refine ⟨fun L hL => ?_, ?_⟩
      · obtain ⟨i, hi, rfl⟩ := List.mem_map.1 hL
        obtain ⟨_, _, _, _, _, _, h3, _⟩ := hall i (List.mem_range.1 hi)
        exact List.nodup_iff_pairwise_ne.1 h3
      · rw [List.pairwise_map]
        refine List.Pairwise.imp_of_mem ?_ (List.pairwise_lt_range (n := n))
        intro i j hi hj hij p hp q hq e
        obtain ⟨l1, hl1, rfl⟩ := List.mem_map.1 hp
        obtain ⟨l2, hl2, rfl⟩ := List.mem_map.1 hq
        obtain ⟨_, _, _, _, _, h1, _⟩ := hall i (List.mem_range.1 hi)
        obtain ⟨_, _, _, _, _, h2, _⟩ := hall j (List.mem_range.1 hj)
        have e1 := (h1 l1 hl1).1.2.1
        have e2 := (h2 l2 hl2).1.2.1
        rw [e] at e1
        omega
    have hcount : ((List.range n).map F).flatten.length = nls subs := by
      rw [hn]
      exact nls_sum subs F (fun i t ht => by
        have hi : i < n := by rw [hn]; exact (List.getElem?_eq_some_iff.1 ht).1
        obtain ⟨t', v, ht', _, _, _, _, h4⟩ := hall i hi
        rw [ht] at ht'
        cases ht'
        exact h4)
    rcases hr with ⟨h1, h2, h3⟩ | ⟨g, cur, rfl, hX, hne, hg, h1, h2, h3, h4⟩
    · have hn0 : n = 0 := by rw [← hl, h1]; rfl
      have hs0 : subs.length = 0 := by omega
      refine ⟨((List.range n).map F).flatten ++ [], .mk ⟨k, s, a, n, c, mn, mx⟩ vs ((List.range n).map F) hl (by simp) (by simp only; omega) (Or.inl h1) (fun i v L hv hL => ?_) [] (Or.inl ⟨rfl, hn0⟩), ?_, ?_, ?_⟩
      · rw [h1] at hv; simp at hv
      · intro l hl; subst hn0; simp at hl
      · subst hn0; simp
      · rw [List.append_nil, hcount, nl, if_pos hs0]; rfl
    · have hn0 : 0 < n := by rw [← hl]; exact List.length_pos_iff.2 hne
      have hs0 : ¬ subs.length = 0 := by omega
      refine ⟨((List.range n).map F).flatten ++ [⟨g, n, c⟩], .mk ⟨k, s, some ⟨g, 0, none⟩, n, c, mn, mx⟩ vs ((List.range n).map F) hl (by simp) (by simp only; omega) ?_ (fun i v L hv hL => ?_) [⟨g, n, c⟩] (Or.inr ⟨g, rfl, hn0, rfl⟩), ?_, ?_, ?_⟩
      · refine Or.inr ⟨g, 0, rfl, ⟨_, _, hg⟩, fun j v hj => ?_⟩
        have hjl := (List.getElem?_eq_some_iff.1 hj).1
        rw [flatN_length] at hjl
        rw [← h4, List.getElem?_take_of_lt (show j < vs.length * 8 by omega)] at hj
        simp only [World.cell?, hg, Nat.zero_add]
        simpa using hj
      · have hi : i < n := by rw [← hl]; exact (List.getElem?_eq_some_iff.1 hv).1
        simp [hi] at hL
        subst hL
        obtain ⟨t', v', _, hv', h5, _⟩ := hall i hi
        rw [hv] at hv'
        cases hv'
        exact h5
      · intro l hl
        rcases List.mem_append.1 hl with hl | hl
        · obtain ⟨i, hi, hl⟩ := hflat l hl
          obtain ⟨_, _, _, _, _, h5, _⟩ := hall i hi
          exact ⟨(h5 l hl).1.1, (h5 l hl).2⟩
        · simp at hl
          subst hl
          exact ⟨hX, cur, hg, hn0, (by show n ≤ c; omega), h2, h3⟩
      · rw [List.map_append, List.nodup_append]
        refine ⟨hnd, by simp, fun p hp q hq e => ?_⟩
        simp at hq
        subst hq
        obtain ⟨l, hl, hlp⟩ := List.mem_map.1 hp
        obtain ⟨i, hi, hl⟩ := hflat l hl
        obtain ⟨_, _, _, _, _, h5, _⟩ := hall i hi
        have := (h5 l hl).1.2.2
        rw [hlp, e] at this
        simp at this
      · rw [List.length_append, hcount, nl, if_neg hs0]; rfl
end Go.Proofs.Ytlcnmfgmgiijpaa

/- A pattern's tree has few lists. -/
namespace Go.Proofs.Ytlcnmfgmgiijpaa
open Go.RowKit

theorem nls_append (a b : List Tr) : nls (a ++ b) = nls a + nls b := by
  induction a with
  | nil => simp [nls]
  | cons t a ih => rw [List.cons_append, nls, nls, ih]; omega
theorem nl_leaf (k : Nat) (s : Oct.S) (mn mx : Int) : nl (.mk k s [] mn mx) = 0 := by rw [nl, nls]; rfl
theorem nl_together (k : Nat) (ts : List Tr) : nl (together k ts) ≤ nls ts + (if 2 ≤ ts.length then 1 else 0) := by
  match ts with
  | [] => rw [together, empty, nl_leaf]; omega
  | [t] => rw [together, nls, nls]; omega
  | t1 :: t2 :: r =>
    show nl (.mk k Oct.none (t1 :: t2 :: r) 0 0) ≤ _
    rw [nl]
    simp
theorem nl_repeated {s : ByteArray} {t u : Tr} {i j : Nat} (h : repeated s t i = .ok u j) : nl u ≤ nl t + 2 * (j - i) := by
  have ht : ∀ l m, nl (times t l m) = nl t + 1 := fun l m => by rw [times, nl, nls, nls]; rfl
  unfold repeated at h
  split at h
  · cases h; rw [ht]; omega
  · split at h
    · cases h; rw [ht]; omega
    · split at h
      · cases h; rw [ht]; omega
      · split at h
        · split at h
          · rename_i hc
            cases h
            have := counts_ge hc
            rw [ht]; omega
          · cases h
          · cases h
        · cases h; omega
theorem nl_read (s : ByteArray) (n : Nat) : (∀ d i t j, pat s n d i = .ok t j → nl t ≤ 2 * (j - i) + 1) ∧ (∀ d acc i t j, acc ≠ [] → patLoop s n d acc i = .ok t j → nl t ≤ nls acc + 2 * (j - i) + (if 2 ≤ acc.length then 1 else 0)) ∧ (∀ d i t j, alt s n d i = .ok t j → nl t ≤ 2 * (j - i) + 1) ∧ (∀ d acc i t j, altLoop s n d acc i = .ok t j → nl t ≤ nls acc + 2 * (j - i) + 1) ∧ (∀ d i t j, piece s n d i = .ok t j → nl t ≤ 2 * (j - i)) ∧ (∀ d i t j, atom s n d i = .ok t j → nl t ≤ 2 * (j - i)) ∧ (∀ d i t j, group s n d i = .ok t j → nl t ≤ 2 * (j - i)) := by
  induction n with
  | zero =>
    refine ⟨?_, ?_, ?_, ?_, ?_, ?_, ?_⟩
    · intro d i t j h; simp [pat] at h
    · intro d acc i t j _ h; simp [patLoop] at h
    · intro d i t j h; simp [alt] at h
    · intro d acc i t j h; simp [altLoop] at h
    · intro d i t j h; simp [piece] at h
    · intro d i t j h; simp [atom] at h
    · intro d i t j h; simp [group] at h
  | succ n ih =>
    obtain ⟨h1, h2, h3, h4, h5, h6, h7⟩ := ih
    have hge := read_ge s n
    refine ⟨?_, ?_, ?_, ?_, ?_, ?_, ?_⟩
    · intro d i t j h
      rw [pat] at h
      split at h
      · rename_i t0 j0 ha
        have e1 := h3 _ _ _ _ ha
        have e2 := h2 _ _ _ _ _ (by simp) h
        have g1 := hge.2.2.1 _ _ _ _ ha
        have g2 := hge.2.1 _ _ _ _ _ h
        rw [nls, nls, if_neg (by simp)] at e2
        omega
      · cases h
      · cases h
    · intro d acc i t j hne h
      rw [patLoop] at h
      split at h
      · split at h
        · rename_i t0 j0 ha
          have e1 := h3 _ _ _ _ ha
          have e2 := h2 _ _ _ _ _ (by simp) h
          have g1 := hge.2.2.1 _ _ _ _ ha
          have g2 := hge.2.1 _ _ _ _ _ h
          rw [nls_append, nls, nls, List.length_append] at e2
          have : 1 ≤ acc.length := List.length_pos_iff.2 hne
          rw [if_pos (by simp; omega)] at e2
          split <;> omega
        · cases h
        · cases h
      · cases h
        have := nl_together 4 acc
        omega
    · intro d i t j h
      rw [alt] at h
      have := h4 _ _ _ _ _ h
      rw [nls] at this
      omega
    · intro d acc i t j h
      rw [altLoop] at h
      split at h
      · split at h
        · rename_i t0 j0 ha
          have e1 := h5 _ _ _ _ ha
          have e2 := h4 _ _ _ _ _ h
          have g1 := hge.2.2.2.2.1 _ _ _ _ ha
          have g2 := hge.2.2.2.1 _ _ _ _ _ h
          rw [nls_append, nls, nls] at e2
          omega
        · cases h
        · cases h
      · cases h
        have := nl_together 3 acc
        split at this <;> omega
    · intro d i t j h
      rw [piece] at h
      split at h
      · cases h; rw [nl_leaf]; omega
      · split at h
        · cases h; rw [nl_leaf]; omega
        · split at h
          · rename_i t0 j0 ha
            have e1 := h6 _ _ _ _ ha
            have e2 := nl_repeated h
            have g1 := hge.2.2.2.2.2.1 _ _ _ _ ha
            have g2 := repeated_ge h
            omega
          · cases h
          · cases h
    · intro d i t j h
      rw [atom] at h
      split at h
      · cases h
      · split at h
        · exact h7 _ _ _ _ h
        · split at h
          · split at h
            · cases h; rw [setT, nl_leaf]; omega
            · cases h
            · cases h
          · split at h
            · cases h; rw [setT, nl_leaf]; omega
            · split at h
              · split at h
                · cases h
                · cases h; rw [setT, nl_leaf]; omega
              · cases h; rw [setT, nl_leaf]; omega
    · intro d i t j h
      rw [group] at h
      split at h
      · cases h
      · split at h
        · rename_i t0 j0 ha
          split at h
          · cases h
          · cases h
            have e1 := h1 _ _ _ _ ha
            have g1 := hge.1 _ _ _ _ ha
            omega
        · cases h
        · cases h
theorem nl_parse {s : ByteArray} {t : Tr} {j : Nat} (h : parseOf s = .ok t j) : nl t ≤ 3000 := by
  obtain ⟨hs, _, hp, _⟩ := parse_ok h
  have := (nl_read s _).1 _ _ _ _ hp
  omega
end Go.Proofs.Ytlcnmfgmgiijpaa

/- Lists of nodes that are written over: what lies in a list's block. -/
namespace Go.Proofs.Ytlcnmfgmgiijpaa
open Go.RowKit

theorem good_sm {N : Nat} (h1 : 1 ≤ N) (hN : N ≤ 100000) : ∀ t : Tr, Good N t → Sm 100000 t
  | .mk k s subs mn mx, h => by
    obtain ⟨hl, hs⟩ := h.subs h1
    exact .mk k s subs mn mx (by omega) (fun i t ht => by
      have hm := List.mem_of_getElem? ht
      exact good_sm h1 hN t (hs t hm))
termination_by x _ => SizeOf.sizeOf x
decreasing_by
  simp_wf
  have := List.sizeOf_lt_of_mem hm
  omega
/-- the node that is written -/
def mk1 (k : Nat) : Nd := ⟨(k : Nat), Oct.none, none, 0, 0, 0, 0⟩
/-- A LIST's BLOCK whose first nodes are all alike. -/
def Full (w : World) (l : Ls) (m k : Nat) : Prop := ∃ cur, w.heap[l.g]? = some (.cells cur 28 (0, 0)) ∧ l.n ≤ l.c ∧ l.c ≤ maxLen ∧ cur.size = l.c * 8 ∧ m ≤ l.n ∧ cur.toList.take (m * 8) = flatN (List.replicate m (mk1 k))
theorem OwnB.full {w : World} {l : Ls} (h : OwnB w l) (k : Nat) : Full w l 0 k := by
  obtain ⟨cur, hg, h1, h2, h3, h4⟩ := h
  exact ⟨cur, hg, h2, h3, h4, Nat.zero_le _, by simp [flatN]⟩
theorem Full.same {w w' : World} {l : Ls} {m k : Nat} (h : Full w l m k) (e : w'.heap[l.g]? = w.heap[l.g]?) : Full w' l m k := by
  obtain ⟨cur, hg, r⟩ := h
  exact ⟨cur, e.trans hg, r⟩
theorem OwnB.same {w w' : World} {l : Ls} (h : OwnB w l) (e : w'.heap[l.g]? = w.heap[l.g]?) : OwnB w' l := by
  obtain ⟨cur, hg, r⟩ := h
  exact ⟨cur, e.trans hg, r⟩
/-- a node stored into a list, as the walk leaves it -/
def put8at (w : World) (A o : Nat) (k : Nat) : World := (((((((w.setCell ⟨A, o, none⟩ (.int .i64 (k : Nat))).setCell ⟨A, o + 1, none⟩ (.int .u64 0)).setCell ⟨A, o + 2, none⟩ (.int .u64 0)).setCell ⟨A, o + 3, none⟩ (.int .u64 0)).setCell ⟨A, o + 4, none⟩ (.int .u64 0)).setCell ⟨A, o + 5, none⟩ (.slice none 0 0)).setCell ⟨A, o + 6, none⟩ (.int .i64 0)).setCell ⟨A, o + 7, none⟩ (.int .i64 0)
theorem heap_put8at (w : World) (A o k b : Nat) (h : b ≠ A) : (put8at w A o k).heap[b]? = w.heap[b]? := by
  unfold put8at
  rw [Below.heap_setCell _ ⟨A, o + 7, none⟩ _ b h, Below.heap_setCell _ ⟨A, o + 6, none⟩ _ b h, Below.heap_setCell _ ⟨A, o + 5, none⟩ _ b h, Below.heap_setCell _ ⟨A, o + 4, none⟩ _ b h, Below.heap_setCell _ ⟨A, o + 3, none⟩ _ b h, Below.heap_setCell _ ⟨A, o + 2, none⟩ _ b h, Below.heap_setCell _ ⟨A, o + 1, none⟩ _ b h, Below.heap_setCell _ ⟨A, o, none⟩ _ b h]
theorem size_put8at (w : World) (A o k : Nat) : (put8at w A o k).heap.size = w.heap.size := by simp [put8at]
theorem mk1_cells (k : Nat) : (mk1 k).cells = [.int .i64 (k : Nat), .int .u64 0, .int .u64 0, .int .u64 0, .int .u64 0, .slice none 0 0, .int .i64 0, .int .i64 0] := by
  simp only [Nd.cells, mk1, word0]
theorem flatN_more (m k : Nat) : flatN (List.replicate (m + 1) (mk1 k)) = flatN (List.replicate m (mk1 k)) ++ (mk1 k).cells := by
  rw [List.replicate_succ', flatN_append]
  simp [flatN]
/-- one node more written -/
theorem Full.put {w : World} {l : Ls} {m k : Nat} (h : Full w l m k) (hm : m < l.n) : Full (put8at w l.g (m * 8) k) l (m + 1) k := by
  obtain ⟨cur, hg, h1, h2, h3, h4, h5⟩ := h
  have hs : cur.size = cur.toList.length := by simp
  have e := heap_set (heap_set (heap_set (heap_set (heap_set (heap_set (heap_set (heap_set hg (m * 8) (.int .i64 (k : Nat))) (m * 8 + 1) (.int .u64 0)) (m * 8 + 2) (.int .u64 0)) (m * 8 + 3) (.int .u64 0)) (m * 8 + 4) (.int .u64 0)) (m * 8 + 5) (.slice none 0 0)) (m * 8 + 6) (.int .i64 0)) (m * 8 + 7) (.int .i64 0)
  refine ⟨_, e, h1, h2, by simp only [Array.size_setIfInBounds]; exact h3, by omega, ?_⟩
  rw [flatN_more, mk1_cells, ← h5]
  simp only [Array.toList_setIfInBounds]
  apply List.ext_getElem?
  intro j
  have hl : (cur.toList.take (m * 8)).length = m * 8 := by rw [List.length_take]; omega
  by_cases hj : j < m * 8
  · rw [List.getElem?_append_left (by omega), List.getElem?_take_of_lt (by omega), List.getElem?_take_of_lt hj]
    rw [List.getElem?_set_ne (by omega), List.getElem?_set_ne (by omega), List.getElem?_set_ne (by omega), List.getElem?_set_ne (by omega), List.getElem?_set_ne (by omega), List.getElem?_set_ne (by omega), List.getElem?_set_ne (by omega), List.getElem?_set_ne (by omega)]
  · by_cases hj2 : j < (m + 1) * 8
    · rw [List.getElem?_take_of_lt hj2, List.getElem?_append_right (by omega), hl]
      have h8 : j = m * 8 ∨ j = m * 8 + 1 ∨ j = m * 8 + 2 ∨ j = m * 8 + 3 ∨ j = m * 8 + 4 ∨ j = m * 8 + 5 ∨ j = m * 8 + 6 ∨ j = m * 8 + 7 := by omega
      rcases h8 with rfl | rfl | rfl | rfl | rfl | rfl | rfl | rfl
      all_goals
        simp [List.getElem?_set]
        try omega
    · rw [List.getElem?_eq_none (by simp; omega), List.getElem?_eq_none (by simp; omega)]
end Go.Proofs.Ytlcnmfgmgiijpaa
