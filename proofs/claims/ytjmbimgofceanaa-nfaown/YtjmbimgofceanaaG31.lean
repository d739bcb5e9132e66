/- Sets of states as rows of bools; closing one under moves without a byte. -/
import Derived.Test.YtjmbimgofceanaaG17
import Derived.Test.YtjmbimgofceanaaG18
import Derived.Laws.CopyOwn
import Derived.Test.YtjmbimgofceanaaG23
import Derived.Test.YtjmbimgofceanaaG01
import Derived.Test.YtjmbimgofceanaaG24
import Derived.Test.YtjmbimgofceanaaG21
import Derived.Test.YtjmbimgofceanaaG15
import Derived.Defers
import Derived.Recover
namespace Go.Proofs.Ytjmbimgofceanaa
open Go.RowKit

def bls (bs : List Bool) : List Value := bs.map Value.bool
def RowB (w : World) (base : Nat) (V : Value) (bs : List Bool) : Prop := w.ownsRow base 4 1 V bs.length (bls bs)
section
variable {w w' : World} {base g n c : Nat} {bs : List Bool}
theorem RowB.cell (h : RowB w base (.slice (some ⟨g, 0, none⟩) n c) bs) {i : Nat} {x : Bool} (hx : bs[i]? = some x) : w.cell? ⟨g, i, none⟩ = some (.bool x) ∧ w.frozen? ⟨g, i, none⟩ = false := by
  have hlt := (List.getElem?_eq_some_iff.1 hx).1
  rcases h.2 with ⟨hv, _⟩ | ⟨g', cap, cur, hv, hbg, hg, h1, h2, h3, h4⟩
  · cases hv
  · cases hv
    have e : (bls bs)[i]? = some (.bool x) := by unfold bls; rw [List.getElem?_map, hx]; rfl
    rw [← h4, List.getElem?_take_of_lt (by omega)] at e
    refine ⟨?_, by simp [World.frozen?, hg]⟩
    simp only [World.cell?, hg]
    simpa using e
theorem RowB.put (h : RowB w base (.slice (some ⟨g, 0, none⟩) n c) bs) (i : Nat) (x : Bool) : RowB (w.setCell ⟨g, i, none⟩ (.bool x)) base (.slice (some ⟨g, 0, none⟩) n c) (bs.set i x) := by
  refine ⟨by simp [bls], ?_⟩
  rcases h.2 with ⟨hv, _⟩ | ⟨g', cap, cur, hv, hbg, hg, h1, h2, h3, h4⟩
  · cases hv
  · cases hv
    refine Or.inr ⟨g, c, _, by simp, hbg, heap_set hg i _, by simpa using h1, h2, by simpa using h3, ?_⟩
    rw [Array.toList_setIfInBounds, List.take_set]
    have e : bls (bs.set i x) = (bls bs).set i (.bool x) := by unfold bls; rw [List.map_set]
    rw [e, List.length_set, h4]
theorem RowB.same (h : RowB w base (.slice (some ⟨g, 0, none⟩) n c) bs) (e : w'.heap[g]? = w.heap[g]?) : RowB w' base (.slice (some ⟨g, 0, none⟩) n c) bs := by
  refine ⟨h.1, ?_⟩
  rcases h.2 with ⟨hv, _⟩ | ⟨g', cap, cur, hv, hbg, hg, rest⟩
  · cases hv
  · cases hv
    exact Or.inr ⟨g, c, cur, rfl, hbg, e.trans hg, rest⟩
theorem RowB.lt (h : RowB w base (.slice (some ⟨g, 0, none⟩) n c) bs) : g < w.heap.size ∧ n = bs.length ∧ base ≤ g := by
  rcases h.2 with ⟨hv, _⟩ | ⟨g', cap, cur, hv, hbg, hg, _⟩
  · cases hv
  · cases hv
    exact ⟨(Array.getElem?_eq_some_iff.1 hg).1, rfl, hbg⟩
theorem RowB.ty (h : RowB w base (.slice (some ⟨g, 0, none⟩) n c) bs) : TyB w 4 g := by
  rcases h.2 with ⟨hv, _⟩ | ⟨g', cap, cur, hv, hbg, hg, _⟩
  · cases hv
  · cases hv
    exact ⟨_, _, hg⟩
end
/-- a move without a byte -/
def moves (b e : Bool) (x : Eg) : Bool := decide (x.k = 1) || (decide (x.k = 3) && b) || (decide (x.k = 4) && e)
def at_ (l : List Bool) (i : Int) : Bool := (l[i.toNat]?).getD false
/-- closed under such moves -/
def Closed (es : List Eg) (b e : Bool) (l : List Bool) : Prop := ∀ x ∈ es, moves b e x = true → at_ l x.f = true → at_ l x.t = true
def Sub (l m : List Bool) : Prop := l.length = m.length ∧ ∀ i : Nat, (l[i]?).getD false = true → (m[i]?).getD false = true
/-- THE CLOSURE of a set of states: the least that is closed. -/
structure Clo (es : List Eg) (b e : Bool) (l m : List Bool) : Prop where
  sub : Sub l m
  closed : Closed es b e m
  least : ∀ k, Sub l k → Closed es b e k → Sub m k
theorem Sub.refl (l : List Bool) : Sub l l := ⟨rfl, fun _ h => h⟩
theorem Sub.trans {l m k : List Bool} (h : Sub l m) (h2 : Sub m k) : Sub l k := ⟨h.1.trans h2.1, fun i hi => h2.2 i (h.2 i hi)⟩
theorem sub_set (l : List Bool) (i : Nat) : Sub l (l.set i true) := by
  refine ⟨by simp, fun j hj => ?_⟩
  rw [List.getElem?_set]
  split
  · split
    · rfl
    · rename_i h1 h2
      subst h1
      rw [List.getElem?_eq_none (by omega)] at hj
      simp at hj
  · exact hj
theorem set_sub {l k : List Bool} (h : Sub l k) {i : Nat} (hk : (k[i]?).getD false = true) : Sub (l.set i true) k := by
  refine ⟨by simpa using h.1, fun j hj => ?_⟩
  by_cases e : i = j
  · subst e; exact hk
  · rw [List.getElem?_set_ne e] at hj
    exact h.2 j hj
end Go.Proofs.Ytjmbimgofceanaa

/- heronlaw07's reach. -/
namespace Go.Proofs.Ytjmbimgofceanaa
open Go.RowKit
attribute [local go_sem ↓] Go.wp_at_zero Go.wp_at_succ

/-- THE STATE of reach. -/
structure Rc (w : World) (A g base n c : Nat) (x : Nf) (u : World) (cur : List Bool) : Prop where
  nf : NFB u A x
  row : RowB u base (.slice (some ⟨g, 0, none⟩) n c) cur
  fr : w.grownBy u (some g)
  ne : A ≠ g
section
variable {w : World} {A g base n c : Nat} {x : Nf} {u u' : World} {cur : List Bool}
theorem Rc.later (h : Rc w A g base n c x u cur) (hb : Below u.heap.size u u') : Rc w A g base n c x u' cur :=
  ⟨h.nf.later hb, h.row.same (hb.block g h.row.lt.1), ⟨hb.os.trans h.fr.os, hb.tape.trans h.fr.tape, hb.output.trans h.fr.output, Nat.le_trans h.fr.size hb.size, fun k hk hne => (hb.block k (Nat.lt_of_lt_of_le hk h.fr.size)).trans (h.fr.block k hk hne)⟩, h.ne⟩
theorem Rc.put (h : Rc w A g base n c x u cur) (i : Nat) (v : Bool) : Rc w A g base n c x (u.setCell ⟨g, i, none⟩ (.bool v)) (cur.set i v) :=
  ⟨(Below.heap_setCell u ⟨g, i, none⟩ _ A h.ne).trans h.nf, h.row.put i v, ⟨h.fr.os, h.fr.tape, h.fr.output, by simpa [World.setCell] using h.fr.size, fun k hk hne => (Below.heap_setCell u ⟨g, i, none⟩ _ k (fun e => hne (by rw [e]))).trans (h.fr.block k hk hne)⟩, h.ne⟩
end
end Go.Proofs.Ytjmbimgofceanaa

/- heronlaw07's add; rows of bools copied and begun anew. -/
namespace Go.Proofs.Ytjmbimgofceanaa
open Go.RowKit
attribute [local go_sem ↓] Go.wp_at_zero Go.wp_at_succ

/-- bools in a block -/
def BAt (w : World) (g : Nat) (bs : List Bool) : Prop := ∀ (j : Nat) (b : Bool), bs[j]? = some b → w.cell? ⟨g, j, none⟩ = some (.bool b)
theorem BAt.later {w w' : World} {g : Nat} {bs : List Bool} (h : BAt w g bs) (hb : Below w.heap.size w w') : BAt w' g bs := fun j b hj => (World.cell?_of_block (w := w) (hb.block g (lt_of_cell (h j b hj)))).trans (h j b hj)
theorem BAt.same {w w' : World} {g : Nat} {bs : List Bool} (h : BAt w g bs) (hb : w'.heap[g]? = w.heap[g]?) : BAt w' g bs := fun j b hj => (World.cell?_of_block (w := w) hb).trans (h j b hj)
end Go.Proofs.Ytjmbimgofceanaa

/- What a tree takes of a line, and ways through the edges that are laid for it: plain. -/
namespace Go.Proofs.Ytjmbimgofceanaa

/-- an edge gone along, from a place of the line to a place -/
def Moves (line : ByteArray) (e : Eg) (i j : Nat) : Prop :=
  (e.k = 1 ∧ j = i) ∨ (e.k = 3 ∧ i = 0 ∧ j = i) ∨ (e.k = 4 ∧ i = line.size ∧ j = i) ∨ (e.k = 2 ∧ i < line.size ∧ e.s (byt line i) = true ∧ j = i + 1)
inductive Path (line : ByteArray) (es : List Eg) (a : Int) (i : Nat) : Int → Nat → Prop
  | refl : Path line es a i a i
  | snoc {q : Int} {j : Nat} (h : Path line es a i q j) (e : Eg) (he : e ∈ es) (hf : e.f = q) (k : Nat) (hm : Moves line e j k) : Path line es a i e.t k
section
variable {line : ByteArray}
theorem Path.mono {es fs : List Eg} {a : Int} {i : Nat} {q : Int} {j : Nat} (h : Path line es a i q j) (hs : ∀ e ∈ es, e ∈ fs) : Path line fs a i q j := by
  induction h with
  | refl => exact .refl
  | snoc _ e he hf k hm ih => exact ih.snoc e (hs e he) hf k hm
theorem Path.trans {es : List Eg} {a b c : Int} {i j k : Nat} (h : Path line es a i b j) (h2 : Path line es b j c k) : Path line es a i c k := by
  induction h2 with
  | refl => exact h
  | snoc _ e he hf k hm ih => exact ih.snoc e he hf k hm
/-- edges from a or a row of states to that row -/
def Into (es : List Eg) (a lo hi : Int) : Prop := ∀ e ∈ es, (e.f = a ∨ lo ≤ e.f ∧ e.f < hi) ∧ lo ≤ e.t ∧ e.t < hi
theorem Into.append {E F : List Eg} {a b lo mid hi : Int} (h : Into E a lo mid) (h2 : Into F b mid hi) (hb : b = a ∨ lo ≤ b ∧ b < mid) (h1 : lo ≤ mid) (h3 : mid ≤ hi) : Into (E ++ F) a lo hi := by
  intro e he
  rcases List.mem_append.1 he with he | he
  · have := h e he; omega
  · have := h2 e he; omega
theorem path_cut {E F : List Eg} {a z lo mid hi : Int} (h1 : Into E a lo mid) (h2 : Into F z mid hi) (ha : a < lo) (hl : lo ≤ mid) (hz : z = a ∨ lo ≤ z ∧ z < mid) {i : Nat} {q : Int} {j : Nat} (h : Path line (E ++ F) a i q j) :
    (¬ (mid ≤ q ∧ q < hi) ∧ Path line E a i q j) ∨ ((mid ≤ q ∧ q < hi) ∧ ∃ k, Path line E a i z k ∧ Path line F z k q j) := by
  induction h with
  | refl => exact Or.inl ⟨by omega, .refl⟩
  | @snoc q j hp e he hf k hm ih =>
    rcases List.mem_append.1 he with he | he
    · have hb := h1 e he
      rcases ih with ⟨_, ih⟩ | ⟨ih, _⟩
      · exact Or.inl ⟨by omega, ih.snoc e he hf k hm⟩
      · exfalso; omega
    · have hb := h2 e he
      refine Or.inr ⟨by omega, ?_⟩
      rcases ih with ⟨hn, ih⟩ | ⟨_, k', ih1, ih2⟩
      · have hq : q = z := by omega
        subst hq
        exact ⟨j, ih, Path.refl.snoc e he hf k hm⟩
      · exact ⟨k', ih1, ih2.snoc e he hf k hm⟩
theorem path_seq {E F : List Eg} {a z y lo mid hi : Int} (h1 : Into E a lo mid) (h2 : Into F z mid hi) (ha : a < lo) (hl : lo ≤ mid) (hz : z = a ∨ lo ≤ z ∧ z < mid) (hy : y = z ∨ mid ≤ y ∧ y < hi) {i j : Nat} :
    Path line (E ++ F) a i y j ↔ ∃ k, Path line E a i z k ∧ Path line F z k y j := by
  constructor
  · intro h
    rcases path_cut h1 h2 ha hl hz h with ⟨hn, h⟩ | ⟨_, h⟩
    · have e : y = z := by omega
      subst e
      exact ⟨j, h, .refl⟩
    · exact h
  · rintro ⟨k, g1, g2⟩
    exact (g1.mono (fun e he => by simp [he])).trans (g2.mono (fun e he => by simp [he]))
/-- THE WAYS THROUGH WHAT IS LAID for something that takes T. -/
structure Lays (line : ByteArray) (es : List Eg) (a z lo hi : Int) (T : Nat → Nat → Prop) : Prop where
  out : a < lo
  le : lo ≤ hi
  into : Into es a lo hi
  fin : z = a ∨ lo ≤ z ∧ z < hi
  path : ∀ i j, Path line es a i z j ↔ T i j
theorem Lays.seq {E F : List Eg} {a z y lo mid hi : Int} {T U : Nat → Nat → Prop} (h : Lays line E a z lo mid T) (h2 : Lays line F z y mid hi U) : Lays line (E ++ F) a y lo hi (fun i j => ∃ k, T i k ∧ U k j) := by
  refine ⟨h.out, Int.le_trans h.le h2.le, h.into.append h2.into h.fin h.le h2.le, ?_, fun i j => ?_⟩
  · have h1 := h.fin
    have h3 := h2.fin
    have h4 := h.le
    have h5 := h2.le
    omega
  · rw [path_seq h.into h2.into h.out h.le h.fin h2.fin]
    constructor
    · rintro ⟨k, g1, g2⟩; exact ⟨k, (h.path i k).1 g1, (h2.path k j).1 g2⟩
    · rintro ⟨k, g1, g2⟩; exact ⟨k, (h.path i k).2 g1, (h2.path k j).2 g2⟩
theorem Lays.lt {es : List Eg} {a z : Nat} {lo hi : Nat} {T : Nat → Nat → Prop} (h : Lays line es a z lo hi T) : z < hi := by
  have h1 := h.fin
  have h2 := h.out
  have h3 := h.le
  omega
end
end Go.Proofs.Ytjmbimgofceanaa

/- A tree's machine goes from its first state to its last just over the pieces that the tree takes: plain. -/
namespace Go.Proofs.Ytjmbimgofceanaa

section
variable {line : ByteArray}
end
end Go.Proofs.Ytjmbimgofceanaa

/- A machine's walk through a line, plain. -/
namespace Go.Proofs.Ytjmbimgofceanaa
open Go.RowKit

def orFrom : Nat → List Bool → List Nat → Nat
  | r, b :: bs, x :: xs => orFrom (if b then r ||| x else r) bs xs
  | r, _, _ => r
/-- an edge that takes a byte -/
def takesB (b : Nat) (cl : List Bool) (y : Eg) : Bool := decide (y.k = 2) && at_ cl y.f && y.s b
def nexts (b : Nat) (cl : List Bool) : List Eg → List Bool → List Bool
  | [], nx => nx
  | y :: es, nx => nexts b cl es (if takesB b cl y then nx.set y.t.toNat true else nx)
/-- A LINE's WALK: from a place on, with these states and rules, to these rules. -/
inductive Walks (M : Ma) (S : Nat) (line : ByteArray) : Nat → List Bool → Nat → Nat → Prop
  | last (i : Nat) (cur cl : List Bool) (r : Nat) : i = line.size → Clo M.es (decide (i = 0)) true (cur.set 0 true) cl → Walks M S line i cur r (orFrom r cl M.rs)
  | step (i : Nat) (cur cl : List Bool) (r R : Nat) : i < line.size → Clo M.es (decide (i = 0)) false (cur.set 0 true) cl → Walks M S line (i + 1) (nexts (byt line i) cl M.es (List.replicate S false)) (orFrom r cl M.rs) R → Walks M S line i cur r R
theorem or_lt32 {a b : Nat} (ha : a < 4294967296) (hb : b < 4294967296) : a ||| b < 4294967296 := Nat.or_lt_two_pow (n := 32) ha hb
end Go.Proofs.Ytjmbimgofceanaa

/- One machine more in a union: its walk, plain. -/
namespace Go.Proofs.Ytjmbimgofceanaa

def InR (es : List Eg) (n : Nat) : Prop := ∀ y ∈ es, 0 ≤ y.f ∧ y.f < (n : Nat) ∧ 0 ≤ y.t ∧ y.t < (n : Nat)
theorem Sub.antisymm {l m : List Bool} (h : Sub l m) (h2 : Sub m l) : l = m := by
  apply List.ext_getElem?
  intro i
  have hl := h.1
  by_cases hi : i < l.length
  · have h1 := h.2 i
    have h3 := h2.2 i
    rw [List.getElem?_eq_getElem hi, List.getElem?_eq_getElem (hl ▸ hi)] at h1 h3 ⊢
    simp only [Option.getD_some] at h1 h3
    cases h4 : l[i] <;> cases h5 : m[i]'(hl ▸ hi) <;> simp_all
  · rw [List.getElem?_eq_none (by omega), List.getElem?_eq_none (by omega)]
theorem Clo.unique {es : List Eg} {b e : Bool} {l m k : List Bool} (h : Clo es b e l m) (h2 : Clo es b e l k) : m = k := (h.least k h2.sub h2.closed).antisymm (h2.least m h.sub h.closed)
theorem Walks.unique {M : Ma} {S : Nat} {line : ByteArray} {i : Nat} {cur : List Bool} {r R R' : Nat} (h : Walks M S line i cur r R) : Walks M S line i cur r R' → R = R' := by
  induction h with
  | last i cur cl r hi hc =>
    intro h2
    cases h2 with
    | last _ _ cl' _ hi' hc' => rw [hc.unique hc']
    | step _ _ cl' _ _ hi' hc' hw => omega
  | step i cur cl r R hi hc hw ih =>
    intro h2
    cases h2 with
    | last _ _ cl' _ hi' hc' => omega
    | step _ _ cl' _ _ hi' hc' hw' =>
      have e := hc.unique hc'
      subst e
      exact ih hw'
theorem orFrom_or : ∀ (bs : List Bool) (xs : List Nat) (r : Nat), orFrom r bs xs = r ||| orFrom 0 bs xs
  | [], xs, r => by simp [orFrom]
  | b :: bs, [], r => by simp [orFrom]
  | b :: bs, x :: xs, r => by
    rw [orFrom, orFrom, orFrom_or bs xs (if b = true then r ||| x else r), orFrom_or bs xs (if b = true then 0 ||| x else 0)]
    cases b
    · simp
    · simp [Nat.or_assoc]
theorem orFrom_append : ∀ (bs cs : List Bool) (xs ys : List Nat) (r : Nat), bs.length = xs.length → orFrom r (bs ++ cs) (xs ++ ys) = orFrom (orFrom r bs xs) cs ys
  | [], cs, [], ys, r, _ => by simp [orFrom]
  | b :: bs, cs, x :: xs, ys, r, h => by
    simp only [List.cons_append]
    rw [orFrom, orFrom, orFrom_append bs cs xs ys _ (by simpa using h)]
theorem or_mix (a b c d : Nat) : a ||| b ||| c ||| d = (a ||| c) ||| (b ||| d) := by
  rw [Nat.or_assoc, Nat.or_assoc, Nat.or_assoc, ← Nat.or_assoc b c d, Nat.or_comm b c, Nat.or_assoc]
theorem at_left {a c : List Bool} {i : Int} (h0 : 0 ≤ i) (h : i < (a.length : Nat)) : at_ (a ++ c) i = at_ a i := by
  unfold at_
  rw [List.getElem?_append_left (by omega)]
theorem at_right {a c : List Bool} {i : Int} (h0 : 0 ≤ i) : at_ (a ++ c) (i + (a.length : Nat)) = at_ c i := by
  unfold at_
  rw [List.getElem?_append_right (by omega)]
  congr 2
  omega
theorem getD_left {a c : List Bool} {i : Nat} (h : i < a.length) : ((a ++ c)[i]?).getD false = (a[i]?).getD false := by rw [List.getElem?_append_left h]
theorem getD_right {a c : List Bool} {i : Nat} (h : a.length ≤ i) : ((a ++ c)[i]?).getD false = (c[i - a.length]?).getD false := by rw [List.getElem?_append_right h]
/-- a set of the longer machine, cut -/
theorem sub_append {a c K : List Bool} {L : List Bool} (hK : K.length = a.length) (h1 : Sub a K) (h2 : Sub c L) : Sub (a ++ c) (K ++ L) := by
  refine ⟨by rw [List.length_append, List.length_append, h1.1, h2.1], fun i hi => ?_⟩
  by_cases hlt : i < a.length
  · rw [getD_left hlt] at hi
    rw [getD_left (by omega)]
    exact h1.2 i hi
  · rw [getD_right (by omega)] at hi
    rw [getD_right (by omega), hK]
    exact h2.2 _ hi
theorem add_es {o M : Ma} {so : Nat} (ho : o.S = (so : Nat)) : (addM o M).es = o.es ++ [⟨1, 0, (so : Nat), Oct.none⟩] ++ M.es.map (shiftE (so : Nat)) := by
  unfold addM
  rw [ho]
theorem add_clo {o M : Ma} {so sm : Nat} (ho : o.S = (so : Nat)) (ho1 : 1 ≤ so) (hm1 : 1 ≤ sm) (hoE : InR o.es so) (hmE : InR M.es sm) {b e : Bool} {co cm clo clm : List Bool} (h1 : co.length = so) (h2 : cm.length = sm) (hc1 : Clo o.es b e (co.set 0 true) clo) (hc2 : Clo M.es b e (cm.set 0 true) clm) : Clo (addM o M).es b e ((co ++ cm).set 0 true) (clo ++ clm) := by
  have l1 : clo.length = so := by rw [← hc1.sub.1, List.length_set, h1]
  have l2 : clm.length = sm := by rw [← hc2.sub.1, List.length_set, h2]
  have hset : (co ++ cm).set 0 true = co.set 0 true ++ cm := by rw [List.set_append_left _ _ (by omega)]
  have z1 : at_ clo 0 = true := by
    have := hc1.sub.2 0 (by rw [List.getElem?_set_self (by omega)]; rfl)
    exact this
  have z2 : at_ clm 0 = true := by
    have := hc2.sub.2 0 (by rw [List.getElem?_set_self (by omega)]; rfl)
    exact this
  refine ⟨?_, ?_, ?_⟩
  · rw [hset]
    exact sub_append (by rw [List.length_set, l1, h1]) hc1.sub ((sub_set cm 0).trans hc2.sub)
  · rw [add_es ho]
    intro y hy hmv hf
    rcases List.mem_append.1 hy with hy | hy
    · rcases List.mem_append.1 hy with hy | hy
      · obtain ⟨q0, q1, q2, q3⟩ := hoE y hy
        rw [at_left q0 (by omega)] at hf
        rw [at_left q2 (by omega)]
        exact hc1.closed y hy hmv hf
      · simp at hy
        subst hy
        have : ((so : Nat) : Int) = 0 + ((clo.length : Nat) : Int) := by omega
        simp only
        rw [this, at_right (by omega)]
        exact z2
    · obtain ⟨z, hz, rfl⟩ := List.mem_map.1 hy
      obtain ⟨q0, q1, q2, q3⟩ := hmE z hz
      simp only [shiftE] at hf ⊢
      rw [← l1] at hf ⊢
      rw [at_right q0] at hf
      rw [at_right q2]
      exact hc2.closed z hz hmv hf
  · intro K hK hKc
    rw [hset] at hK
    have hKl : K.length = so + sm := by rw [← hK.1, List.length_append, List.length_set, h1, h2]
    obtain ⟨K1, K2, rfl, k1, k2⟩ : ∃ K1 K2, K = K1 ++ K2 ∧ K1.length = so ∧ K2.length = sm := ⟨K.take so, K.drop so, (List.take_append_drop so K).symm, by rw [List.length_take]; omega, by rw [List.length_drop]; omega⟩
    rw [add_es ho] at hKc
    have s1 : Sub (co.set 0 true) K1 := ⟨by rw [List.length_set, h1, k1], fun i hi => by
      by_cases hlt : i < so
      · have := hK.2 i (by rw [getD_left (by rw [List.length_set]; omega)]; exact hi)
        rw [getD_left (by omega)] at this
        exact this
      · rw [List.getElem?_eq_none (by rw [List.length_set]; omega)] at hi
        cases hi⟩
    have c1 : Closed o.es b e K1 := fun y hy hmv hf => by
      obtain ⟨q0, q1, q2, q3⟩ := hoE y hy
      have := hKc y (List.mem_append_left _ (List.mem_append_left _ hy)) hmv (by rw [at_left q0 (by omega)]; exact hf)
      rw [at_left q2 (by omega)] at this
      exact this
    have hz : at_ K2 0 = true := by
      have hk0 : at_ K1 0 = true := s1.2 0 (by rw [List.getElem?_set_self (by omega)]; rfl)
      have := hKc ⟨1, 0, (so : Nat), Oct.none⟩ (List.mem_append_left _ (List.mem_append_right _ (by simp))) (by unfold moves; simp) (by rw [at_left (Int.le_refl 0) (by omega)]; exact hk0)
      simp only at this
      rw [show ((so : Nat) : Int) = 0 + ((K1.length : Nat) : Int) by omega, at_right (by omega)] at this
      exact this
    have s2 : Sub (cm.set 0 true) K2 := by
      refine set_sub ⟨by rw [h2, k2], fun i hi => ?_⟩ hz
      have := hK.2 (so + i) (by rw [getD_right (by rw [List.length_set]; omega), List.length_set, h1, Nat.add_sub_cancel_left]; exact hi)
      rw [getD_right (by omega), k1, Nat.add_sub_cancel_left] at this
      exact this
    have c2 : Closed M.es b e K2 := fun y hy hmv hf => by
      obtain ⟨q0, q1, q2, q3⟩ := hmE y hy
      have := hKc (shiftE (so : Nat) y) (List.mem_append_right _ (List.mem_map_of_mem hy)) hmv (by simp only [shiftE]; rw [← k1, at_right q0]; exact hf)
      simp only [shiftE] at this
      rw [← k1, at_right q2] at this
      exact this
    exact sub_append (by omega) (hc1.least K1 s1 c1) (hc2.least K2 s2 c2)
theorem nexts_append (bb : Nat) (cl : List Bool) : ∀ (es fs : List Eg) (nx : List Bool), nexts bb cl (es ++ fs) nx = nexts bb cl fs (nexts bb cl es nx)
  | [], _, _ => rfl
  | y :: es, fs, nx => by rw [List.cons_append, nexts, nexts, nexts_append bb cl es fs]
theorem nexts_left {bb : Nat} {a c : List Bool} {so : Nat} (ha : a.length = so) : ∀ (es : List Eg), InR es so → ∀ (nx mx : List Bool), nx.length = so → nexts bb (a ++ c) es (nx ++ mx) = nexts bb a es nx ++ mx ∧ (nexts bb a es nx).length = so
  | [], _, nx, mx, hn => ⟨rfl, hn⟩
  | y :: es, h, nx, mx, hn => by
    obtain ⟨q0, q1, q2, q3⟩ := h y (by simp)
    have ih := nexts_left (bb := bb) (c := c) ha es (fun z hz => h z (by simp [hz]))
    have e : takesB bb (a ++ c) y = takesB bb a y := by unfold takesB; rw [at_left q0 (by omega)]
    rw [nexts, nexts, e]
    cases takesB bb a y with
    | false => exact ih nx mx hn
    | true =>
      have := ih (nx.set y.t.toNat true) mx (by simpa using hn)
      simp only [if_true]
      rw [List.set_append_left _ _ (by omega)]
      exact this
theorem nexts_right {bb : Nat} {a c : List Bool} {so sm : Nat} (ha : a.length = so) (hc : c.length = sm) : ∀ (es : List Eg), InR es sm → ∀ (nx mx : List Bool), nx.length = so → mx.length = sm → nexts bb (a ++ c) (es.map (shiftE (so : Nat))) (nx ++ mx) = nx ++ nexts bb c es mx ∧ (nexts bb c es mx).length = sm
  | [], _, nx, mx, hn, hm => ⟨rfl, hm⟩
  | y :: es, h, nx, mx, hn, hm => by
    obtain ⟨q0, q1, q2, q3⟩ := h y (by simp)
    have ih := nexts_right (bb := bb) ha hc es (fun z hz => h z (by simp [hz]))
    have e : takesB bb (a ++ c) (shiftE (so : Nat) y) = takesB bb c y := by
      unfold takesB
      simp only [shiftE]
      rw [← ha, at_right q0]
      rfl
    rw [List.map_cons, nexts, nexts, e]
    cases takesB bb c y with
    | false => exact ih nx mx hn hm
    | true =>
      have := ih nx (mx.set y.t.toNat true) hn (by simpa using hm)
      simp only [if_true, shiftE]
      rw [show (y.t + ((so : Nat) : Int)).toNat = nx.length + y.t.toNat by omega, List.set_append_right _ _ (by omega), Nat.add_sub_cancel_left]
      exact this
theorem add_next {o M : Ma} {so sm : Nat} (ho : o.S = (so : Nat)) (hoE : InR o.es so) (hmE : InR M.es sm) {bb : Nat} {clo clm : List Bool} (l1 : clo.length = so) (l2 : clm.length = sm) :
    nexts bb (clo ++ clm) (addM o M).es (List.replicate (so + sm) false) = nexts bb clo o.es (List.replicate so false) ++ nexts bb clm M.es (List.replicate sm false) ∧ (nexts bb clo o.es (List.replicate so false)).length = so ∧ (nexts bb clm M.es (List.replicate sm false)).length = sm := by
  rw [add_es ho, nexts_append, nexts_append, ← List.replicate_append_replicate]
  obtain ⟨e1, e2⟩ := nexts_left (bb := bb) (c := clm) l1 o.es hoE (List.replicate so false) (List.replicate sm false) (by simp)
  rw [e1]
  have e3 : ∀ X, nexts bb (clo ++ clm) [⟨1, 0, (so : Nat), Oct.none⟩] X = X := fun X => by
    rw [nexts, nexts]
    simp [takesB]
  rw [e3]
  obtain ⟨e4, e5⟩ := nexts_right (bb := bb) l1 l2 M.es hmE (nexts bb clo o.es (List.replicate so false)) (List.replicate sm false) e2 (by simp)
  exact ⟨e4, e2, e5⟩
theorem add_walks {o M : Ma} {so sm : Nat} {line : ByteArray} (ho : o.S = (so : Nat)) (hor : o.rs.length = so) (ho1 : 1 ≤ so) (hm1 : 1 ≤ sm) (hoE : InR o.es so) (hmE : InR M.es sm) {i : Nat} {co : List Bool} {ro Ro : Nat} (h : Walks o so line i co ro Ro) : ∀ (cm : List Bool) (rm Rm : Nat), co.length = so → cm.length = sm → Walks M sm line i cm rm Rm → Walks (addM o M) (so + sm) line i (co ++ cm) (ro ||| rm) (Ro ||| Rm) := by
  have hors : ∀ (clo clm : List Bool) (ro rm : Nat), clo.length = so → orFrom (ro ||| rm) (clo ++ clm) (addM o M).rs = orFrom ro clo o.rs ||| orFrom rm clm M.rs := fun clo clm ro rm l1 => by
    show orFrom _ _ (o.rs ++ M.rs) = _
    rw [orFrom_append _ _ _ _ _ (by omega), orFrom_or clm, orFrom_or clo, orFrom_or clo o.rs ro, orFrom_or clm M.rs rm]
    exact or_mix _ _ _ _
  induction h with
  | last i co clo ro hi hc =>
    intro cm rm Rm h1 h2 hw
    have l1 : clo.length = so := by rw [← hc.sub.1, List.length_set, h1]
    cases hw with
    | last _ _ clm _ hi' hc' =>
      rw [← hors clo clm ro rm l1]
      exact .last i _ _ _ hi (add_clo ho ho1 hm1 hoE hmE h1 h2 hc hc')
    | step _ _ clm _ _ hi' hc' hw' => omega
  | step i co clo ro Ro hi hc hw ih =>
    intro cm rm Rm h1 h2 hw2
    have l1 : clo.length = so := by rw [← hc.sub.1, List.length_set, h1]
    cases hw2 with
    | last _ _ clm _ hi' hc' => omega
    | step _ _ clm _ _ hi' hc' hw' =>
      have l2 : clm.length = sm := by rw [← hc'.sub.1, List.length_set, h2]
      obtain ⟨e1, e2, e3⟩ := add_next (bb := byt line i) ho hoE hmE l1 l2
      refine .step i _ (clo ++ clm) _ _ hi (add_clo ho ho1 hm1 hoE hmE h1 h2 hc hc') ?_
      rw [hors clo clm ro rm l1, e1]
      exact ih _ _ _ e2 e3 hw'
end Go.Proofs.Ytjmbimgofceanaa

/- The machine of a tree fits. -/
namespace Go.Proofs.Ytjmbimgofceanaa

def Okm (m : Mk) : Prop := ∀ e ∈ m.es, okE (m.S : Nat) e = true
theorem okE_iff (S : Int) (e : Eg) : okE S e = true ↔ 1 ≤ e.k ∧ e.k ≤ 4 ∧ 0 ≤ e.f ∧ e.f < S ∧ 0 ≤ e.t ∧ e.t < S ∧ (e.k = 2 ∨ noSet e.s = true) := by
  unfold okE
  cases noSet e.s <;> simp <;> omega
theorem okE_mono {S S' : Int} {e : Eg} (h : okE S e = true) (hS : S ≤ S') : okE S' e = true := by
  rw [okE_iff] at h ⊢
  obtain ⟨h1, h2, h3, h4, h5, h6, h7⟩ := h
  exact ⟨h1, h2, h3, by omega, h5, by omega, h7⟩
theorem Okm.st {m : Mk} (h : Okm m) : Okm m.st := fun e he => okE_mono (h e he) (by simp only [Mk.st]; omega)
theorem Okm.ed {m : Mk} (h : Okm m) {e : Eg} (he : okE (m.S : Nat) e = true) : Okm (m.ed e) := fun y hy => by
  rcases List.mem_append.1 hy with hy | hy
  · exact h y hy
  · simp at hy
    subst hy
    exact he
theorem noSet_n : noSet Oct.none = true := by unfold noSet; rw [show Oct.none = fun _ => false from rfl]; simp [Oct.word_none]
theorem Okm.fr {m : Mk} (h : Okm m) {a b : Nat} (ha : a < m.S) (hb : b < m.S) : Okm (m.fr a b) := h.ed (by
  rw [okE_iff]
  exact ⟨by simp only; omega, by simp only; omega, by simp only; omega, by simp only; omega, by simp only; omega, by simp only; omega, Or.inr noSet_n⟩)
end Go.Proofs.Ytjmbimgofceanaa

/- A line's walk comes to a state just where a way leads there: plain. -/
namespace Go.Proofs.Ytjmbimgofceanaa

section
variable {line : ByteArray} {es : List Eg} {S : Nat}
open Classical in
end
end Go.Proofs.Ytjmbimgofceanaa

/- heronlaw07's ends: of nothing, of an anchor, of a set. -/
namespace Go.Proofs.Ytjmbimgofceanaa
open Go.RowKit
attribute [local go_sem ↓] Go.wp_at_zero Go.wp_at_succ

end Go.Proofs.Ytjmbimgofceanaa

/- heronlaw07's ends: of a row, of alternatives. -/
namespace Go.Proofs.Ytjmbimgofceanaa
open Go.RowKit
attribute [local go_sem ↓] Go.wp_at_zero Go.wp_at_succ

end Go.Proofs.Ytjmbimgofceanaa

/- heronlaw07's ends: of a repeat. -/
namespace Go.Proofs.Ytjmbimgofceanaa
open Go.RowKit
attribute [local go_sem ↓] Go.wp_at_zero Go.wp_at_succ

end Go.Proofs.Ytjmbimgofceanaa

/- heronlaw07's ends: of a set. -/
namespace Go.Proofs.Ytjmbimgofceanaa
open Go.RowKit
attribute [local go_sem ↓] Go.wp_at_zero Go.wp_at_succ

end Go.Proofs.Ytjmbimgofceanaa

/- heronlaw07's ends of any tree; takes. -/
namespace Go.Proofs.Ytjmbimgofceanaa
open Go.RowKit
attribute [local go_sem ↓] Go.wp_at_zero Go.wp_at_succ

end Go.Proofs.Ytjmbimgofceanaa

/- heronlaw07's heavy. -/
namespace Go.Proofs.Ytjmbimgofceanaa
open Go.RowKit
attribute [local go_sem ↓] Go.wp_at_zero Go.wp_at_succ

end Go.Proofs.Ytjmbimgofceanaa

/- A union's walk: its machines' rules, or-ed. -/
namespace Go.Proofs.Ytjmbimgofceanaa
open Go.RowKit

/-- A MACHINE THAT FITS, and the rules that it meets in a line. -/
structure Wk (line : ByteArray) (M : Ma) (R : Nat) : Prop where
  s : M.S = (M.rs.length : Nat)
  one : 1 ≤ M.rs.length
  inr : InR M.es M.rs.length
  w : Walks M M.rs.length line 0 (List.replicate M.rs.length false) 0 R
theorem Wk.add {line : ByteArray} {o M : Ma} {Ro Rm : Nat} (h : Wk line o Ro) (h2 : Wk line M Rm) : Wk line (addM o M) (Ro ||| Rm) := by
  have e : (addM o M).rs.length = o.rs.length + M.rs.length := by simp [addM]
  refine ⟨?_, by have := h.one; omega, ?_, ?_⟩
  · rw [e]
    show o.S + M.S = _
    rw [h.s, h2.s]
    omega
  · rw [e, add_es h.s]
    intro y hy
    have h1 := h.one
    rcases List.mem_append.1 hy with hy | hy
    · rcases List.mem_append.1 hy with hy | hy
      · have := h.inr y hy
        omega
      · simp at hy
        subst hy
        have := h2.one
        simp only
        omega
    · obtain ⟨z, hz, rfl⟩ := List.mem_map.1 hy
      have := h2.inr z hz
      simp only [shiftE]
      omega
  · have := add_walks h.s rfl h.one h2.one h.inr h2.inr h.w (List.replicate M.rs.length false) 0 Rm (by simp) (by simp) h2.w
    rw [List.replicate_append_replicate] at this
    rw [e]
    exact this
end Go.Proofs.Ytjmbimgofceanaa

/- ere.read's deferred function. -/
namespace Go.Proofs.Ytjmbimgofceanaa
open Go.RowKit
attribute [local go_sem ↓] Go.wp_at_zero Go.wp_at_succ
theorem eq20_nil (w : World) : (binOp .eql 20 .nilIface .nilIface).run Try.prog w = .ok (.bool true) w := by kernel_rfl
theorem eq20_some (v : Value) (w : World) : (binOp .eql 20 (.iface 82 v) .nilIface).run Try.prog w = .ok (.bool false) w := by kernel_rfl
theorem catch_idle (p q r : Addr) (w : World) :
    CallsD Try.prog 43 #[.pointer (some p), .pointer (some q), .pointer (some r)] .returning w fun e u' w' => e = .returned (.tuple #[]) ∧ u' = .returning ∧ w' = w := by
  have q20 := eq20_nil
  refine callsD_of_wpS Try.func43 rfl fun c₀ cs hu => ?_
  apply wpS_seq
  apply wpS_region
  simp [wpOpsS, go_sem, recoverD, hu, Try.ntmps43, Exit.thenS]
  apply wpS_seq
  apply wpS_seq
  apply wpS_region
  simp [wpOpsS, go_sem, Exit.thenS, q20]
  refine wpS_cond (t := true) (by simp [Act.eval, Array.replicate]) ?_
  simp only [if_true]
  refine wpS_of_wp (wp_ret ?_)
  cases c₀
  simp_all [bodyPostS, results, Try.results43, Exit.thenS]
end Go.Proofs.Ytjmbimgofceanaa

/- ere.read's deferred function, where it catches a fault. -/
namespace Go.Proofs.Ytjmbimgofceanaa
open Go.RowKit

/-- a box of an integer -/
def IB (w : World) (A : Nat) (t : TypeId) (v : Int) : Prop := w.heap[A]? = some (.cells #[.int .i64 v] t (0, 0))
theorem IB.lt {w : World} {A : Nat} {t : TypeId} {v : Int} (h : IB w A t v) : A < w.heap.size := (Array.getElem?_eq_some_iff.1 h).1
theorem IB.later {w w' : World} {A : Nat} {t : TypeId} {v : Int} (h : IB w A t v) (hb : Below w.heap.size w w') : IB w' A t v := (hb.block A h.lt).trans h
theorem IB.grown {w w' : World} {A : Nat} {t : TypeId} {v : Int} {r : Option Nat} (h : IB w A t v) (hg : w.grownBy w' r) (hne : some A ≠ r) : IB w' A t v := (hg.block A h.lt hne).trans h
theorem IB.cell {w : World} {A : Nat} {t : TypeId} {v : Int} (h : IB w A t v) : w.cell? ⟨A, 0, none⟩ = some (.int .i64 v) := by
  unfold IB at h
  simp [World.cell?, h]
theorem IB.frozen {w : World} {A : Nat} {t : TypeId} {v : Int} (h : IB w A t v) : w.frozen? ⟨A, 0, none⟩ = false := by
  unfold IB at h
  simp [World.frozen?, h]
theorem IB.put {w : World} {A : Nat} {t : TypeId} {v : Int} (h : IB w A t v) (x : Int) : IB (w.setCell ⟨A, 0, none⟩ (.int .i64 x)) A t x := by
  have := heap_set h 0 (.int .i64 x)
  unfold IB
  rw [this]
  rfl
theorem IB.other {w : World} {A B : Nat} {t : TypeId} {v : Int} (h : IB w A t v) (hne : A ≠ B) (j : Nat) (x : Value) : IB (w.setCell ⟨B, j, none⟩ x) A t v := by
  unfold IB at h ⊢
  rw [Below.heap_setCell w ⟨B, j, none⟩ x A hne]
  exact h
theorem IB.put8 {w : World} {A B : Nat} {t : TypeId} {v : Int} (h : IB w A t v) (hne : A ≠ B) (x : Nd) : IB (put8 w B x) A t v := by
  unfold IB at h ⊢
  rw [heap_put8 w B x A hne]
  exact h
/-- the fault's box -/
def FB (w : World) (A i e : Nat) : Prop := w.heap[A]? = some (.cells #[.int .i64 (i : Nat), .int .i64 (e : Nat)] 82 (0, 0))
theorem FB.other {w : World} {A B i e : Nat} (h : FB w A i e) (hne : A ≠ B) (j : Nat) (x : Value) : FB (w.setCell ⟨B, j, none⟩ x) A i e := by
  unfold FB at h ⊢
  rw [Below.heap_setCell w ⟨B, j, none⟩ x A hne]
  exact h
theorem FB.put8 {w : World} {A B i e : Nat} (h : FB w A i e) (hne : A ≠ B) (x : Nd) : FB (put8 w B x) A i e := by
  unfold FB at h ⊢
  rw [heap_put8 w B x A hne]
  exact h
theorem FB.cells {w : World} {A i e : Nat} (h : FB w A i e) : w.cell? ⟨A, 0, none⟩ = some (.int .i64 (i : Nat)) ∧ w.cell? ⟨A, 1, none⟩ = some (.int .i64 (e : Nat)) := by
  unfold FB at h
  simp [World.cell?, h]
/-- THE STATE inside the last region -/
structure In5 (W : World) (n TB P E F i e : Nat) (x : Nd) (o1 o2 : Int) (act : Act) (L : Nat → Bool) (a : Act) (u : World) : Prop where
  sz : a.tmps.size = 22
  df : a.defers = act.defers
  fr : ∀ k, k < 17 → a.tmps[k]? = act.tmps[k]?
  v0 : L 0 = true → T a 17 = .agg #[.int .i64 0, .int .u64 0, .int .u64 0, .int .u64 0, .int .u64 0, .slice none 0 0, .int .i64 0, .int .i64 0]
  v1 : L 1 = true → T a 18 = .pointer (some ⟨F, 0, none⟩)
  v2 : L 2 = true → T a 19 = .int .i64 (i : Nat)
  v3 : L 3 = true → T a 20 = .pointer (some ⟨F, 1, none⟩)
  v4 : L 4 = true → T a 21 = .int .i64 (e : Nat)
  fb : FB u F i e
  nb : NB u TB (if L 5 then zeroNd else x)
  pb : IB u P 3 (if L 6 then (i : Int) else o1)
  eb : IB u E 31 (if L 7 then (e : Int) else o2)
  be : Below n W u
theorem put_fr {act a : Act} (h : ∀ k, k < 17 → a.tmps[k]? = act.tmps[k]?) {d : Nat} (hd : 17 ≤ d) (v : Value) : ∀ k, k < 17 → (a.put (some d) v).tmps[k]? = act.tmps[k]? := fun k hk => by
  simp only [Act.put]
  rw [Array.getElem?_setIfInBounds_ne (by omega)]
  exact h k hk
set_option maxRecDepth 100000 in
set_option maxHeartbeats 2000000 in
theorem reg5 {act : Act} {n TB P E F i e : Nat} {x : Nd} {o1 o2 : Int} {W : World} {Q : Exit → Act → World → Prop}
    (hT0 : T act 0 = .pointer (some ⟨TB, 0, none⟩)) (hT1 : T act 1 = .pointer (some ⟨P, 0, none⟩)) (hT2 : T act 2 = .pointer (some ⟨E, 0, none⟩)) (hT4 : T act 4 = .pointer (some ⟨F, 0, none⟩)) (hsz : act.tmps.size = 22)
    (h1 : TB ≠ P) (h2 : TB ≠ E) (h3 : P ≠ E) (f1 : F ≠ TB) (f2 : F ≠ P) (f3 : F ≠ E) (k1 : n ≤ TB) (k2 : n ≤ P) (k3 : n ≤ E)
    (hF : FB W F i e) (hN : NB W TB x) (hP : IB W P 3 o1) (hE : IB W E 31 o2)
    (K : ∀ a' W', a'.defers = act.defers → NB W' TB zeroNd → IB W' P 3 i → IB W' E 31 e → Below n W W' → Q .normal a' W') : (Code.region 5 (opsOf Try.f43 5) true).wp Try.prog Q act W := by
  refine wp_region_inv (by kernel_rfl) (In5 W n TB P E F i e x o1 o2 act) ?wf ?step ?fin ?zero
  case zero =>
    intro L hL
    have l0 := hL 0 (by decide)
    have l1 := hL 1 (by decide)
    have l2 := hL 2 (by decide)
    have l3 := hL 3 (by decide)
    have l4 := hL 4 (by decide)
    have l5 := hL 5 (by decide)
    have l6 := hL 6 (by decide)
    have l7 := hL 7 (by decide)
    exact ⟨hsz, rfl, fun _ _ => rfl, by simp [l0], by simp [l1], by simp [l2], by simp [l3], by simp [l4], hF, by rw [l5]; exact hN, by rw [l6]; exact hP, by rw [l7]; exact hE, (Below.refl _ _).drew⟩
  case fin =>
    intro L a u hL hI
    have b1 := hI.nb
    have b2 := hI.pb
    have b3 := hI.eb
    rw [hL 5 (by decide)] at b1
    rw [hL 6 (by decide)] at b2
    rw [hL 7 (by decide)] at b3
    exact K a u hI.df b1 b2 b3 hI.be
  case wf =>
    have h : AllFrom (fun i o => ∀ e ∈ o.after, Region.binds .any e = true → e.on < i) 0 (opsOf Try.f43 5).toList := by
      refine ⟨by simp, by simp [Region.binds], by simp [Region.binds], by simp [Region.binds], by simp [Region.binds], by simp [Region.binds], by simp [Region.binds], by simp [Region.binds], trivial⟩
    intro i o e ho he hb
    have := allFrom_at h i o (by simpa using ho) e he hb
    omega
  case step =>
    have h : AllFrom (fun k p => p.guard = none ∧ ∀ L a u, In5 W n TB P E F i e x o1 o2 act L a u → L k = false → (∀ e ∈ p.after, Region.binds .any e = true → L e.on = true) → p.wp Try.prog a u (fun a' w' => In5 W n TB P E F i e x o1 o2 act (more L k) a' w') Q) 0 (opsOf Try.f43 5).toList := by
      refine ⟨⟨rfl, fun L a u hI hk hE => ?s0⟩, ⟨rfl, fun L a u hI hk hE => ?s1⟩, ⟨rfl, fun L a u hI hk hE => ?s2⟩, ⟨rfl, fun L a u hI hk hE => ?s3⟩, ⟨rfl, fun L a u hI hk hE => ?s4⟩, ⟨rfl, fun L a u hI hk hE => ?s5⟩, ⟨rfl, fun L a u hI hk hE => ?s6⟩, ⟨rfl, fun L a u hI hk hE => ?s7⟩, trivial⟩
      case s0 =>
        refine ob_plain (v := .agg #[.int .i64 0, .int .u64 0, .int .u64 0, .int .u64 0, .int .u64 0, .slice none 0 0, .int .i64 0, .int .i64 0]) (w' := u) ?_ ?_
        · simp [execOp, Act.eval, go_sem]
        · exact ⟨by simpa [Act.put] using hI.sz, hI.df, put_fr hI.fr (by decide) _, fun _ => T_put (by rw [hI.sz]; decide), fun h => (T_put' (by decide)).trans (hI.v1 (by simpa [more] using h)), fun h => (T_put' (by decide)).trans (hI.v2 (by simpa [more] using h)), fun h => (T_put' (by decide)).trans (hI.v3 (by simpa [more] using h)), fun h => (T_put' (by decide)).trans (hI.v4 (by simpa [more] using h)), hI.fb, by simpa [more] using hI.nb, by simpa [more] using hI.pb, by simpa [more] using hI.eb, hI.be⟩
      case s1 =>
        have hx := (show T a 4 = T act 4 by unfold T; rw [hI.fr 4 (by decide)]).trans hT4
        refine ob_plain (v := .pointer (some ⟨F, 0, none⟩)) (w' := u) ?_ ?_
        · unfold T at hx
          simp [execOp, Act.eval, hx, go_sem]
        · exact ⟨by simpa [Act.put] using hI.sz, hI.df, put_fr hI.fr (by decide) _, fun h => (T_put' (by decide)).trans (hI.v0 (by simpa [more] using h)), fun _ => T_put (by rw [hI.sz]; decide), fun h => (T_put' (by decide)).trans (hI.v2 (by simpa [more] using h)), fun h => (T_put' (by decide)).trans (hI.v3 (by simpa [more] using h)), fun h => (T_put' (by decide)).trans (hI.v4 (by simpa [more] using h)), hI.fb, by simpa [more] using hI.nb, by simpa [more] using hI.pb, by simpa [more] using hI.eb, hI.be⟩
      case s2 =>
        have hx := hI.v1 (hE ⟨1, .data⟩ (by simp) rfl)
        have c0 := hI.fb.cells.1
        refine ob_plain (v := .int .i64 (i : Nat)) (w' := u) ?_ ?_
        · unfold T at hx
          simp [execOp, Act.eval, hx, go_sem, c0]
        · exact ⟨by simpa [Act.put] using hI.sz, hI.df, put_fr hI.fr (by decide) _, fun h => (T_put' (by decide)).trans (hI.v0 (by simpa [more] using h)), fun h => (T_put' (by decide)).trans (hI.v1 (by simpa [more] using h)), fun _ => T_put (by rw [hI.sz]; decide), fun h => (T_put' (by decide)).trans (hI.v3 (by simpa [more] using h)), fun h => (T_put' (by decide)).trans (hI.v4 (by simpa [more] using h)), hI.fb, by simpa [more] using hI.nb, by simpa [more] using hI.pb, by simpa [more] using hI.eb, hI.be⟩
      case s3 =>
        have hx := (show T a 4 = T act 4 by unfold T; rw [hI.fr 4 (by decide)]).trans hT4
        refine ob_plain (v := .pointer (some ⟨F, 1, none⟩)) (w' := u) ?_ ?_
        · unfold T at hx
          simp [execOp, Act.eval, hx, go_sem]
        · exact ⟨by simpa [Act.put] using hI.sz, hI.df, put_fr hI.fr (by decide) _, fun h => (T_put' (by decide)).trans (hI.v0 (by simpa [more] using h)), fun h => (T_put' (by decide)).trans (hI.v1 (by simpa [more] using h)), fun h => (T_put' (by decide)).trans (hI.v2 (by simpa [more] using h)), fun _ => T_put (by rw [hI.sz]; decide), fun h => (T_put' (by decide)).trans (hI.v4 (by simpa [more] using h)), hI.fb, by simpa [more] using hI.nb, by simpa [more] using hI.pb, by simpa [more] using hI.eb, hI.be⟩
      case s4 =>
        have hx := hI.v3 (hE ⟨3, .data⟩ (by simp) rfl)
        have c0 := hI.fb.cells.2
        refine ob_plain (v := .int .i64 (e : Nat)) (w' := u) ?_ ?_
        · unfold T at hx
          simp [execOp, Act.eval, hx, go_sem, c0]
        · exact ⟨by simpa [Act.put] using hI.sz, hI.df, put_fr hI.fr (by decide) _, fun h => (T_put' (by decide)).trans (hI.v0 (by simpa [more] using h)), fun h => (T_put' (by decide)).trans (hI.v1 (by simpa [more] using h)), fun h => (T_put' (by decide)).trans (hI.v2 (by simpa [more] using h)), fun h => (T_put' (by decide)).trans (hI.v3 (by simpa [more] using h)), fun _ => T_put (by rw [hI.sz]; decide), hI.fb, by simpa [more] using hI.nb, by simpa [more] using hI.pb, by simpa [more] using hI.eb, hI.be⟩
      case s5 =>
        have hv := hI.v0 (hE ⟨0, .data⟩ (by simp) rfl)
        have hp := (show T a 0 = T act 0 by unfold T; rw [hI.fr 0 (by decide)]).trans hT0
        have hk : L 5 = false := hk
        have hnb := hI.nb
        rw [hk] at hnb
        obtain ⟨t0, t1, t2, t3, t4, t5, t6, t7⟩ := hnb.cells
        have y0 := hnb.frozen 0
        have y1 := hnb.frozen 1
        have y2 := hnb.frozen 2
        have y3 := hnb.frozen 3
        have y4 := hnb.frozen 4
        have y5 := hnb.frozen 5
        have y6 := hnb.frozen 6
        have y7 := hnb.frozen 7
        refine ob_skip (w' := put8z u TB 0 none 0 0 0 0) ?_ ?_
        · unfold T at hv hp
          simp [execOp, Act.eval, hv, hp, go_sem, t0, t1, t2, t3, t4, t5, t6, t7, y0, y1, y2, y3, y4, y5, y6, y7, put8z]
        · rw [put8z_eq]
          exact ⟨hI.sz, hI.df, hI.fr, fun h => hI.v0 (by simpa [more] using h), fun h => hI.v1 (by simpa [more] using h), fun h => hI.v2 (by simpa [more] using h), fun h => hI.v3 (by simpa [more] using h), fun h => hI.v4 (by simpa [more] using h), hI.fb.put8 f1 _, by simp only [more, if_true]; exact hnb.put8 _, by simpa [more] using hI.pb.put8 h1.symm _, by simpa [more] using hI.eb.put8 h2.symm _, below_put8 hI.be k1 _⟩
      case s6 =>
        have hv := hI.v2 (hE ⟨2, .data⟩ (by simp) rfl)
        have hp := (show T a 1 = T act 1 by unfold T; rw [hI.fr 1 (by decide)]).trans hT1
        have t0 := hI.pb.cell
        have y0 := hI.pb.frozen
        refine ob_skip (w' := u.setCell ⟨P, 0, none⟩ (.int .i64 (i : Nat))) ?_ ?_
        · unfold T at hv hp
          simp [execOp, Act.eval, hv, hp, go_sem, t0, y0]
        · exact ⟨hI.sz, hI.df, hI.fr, fun h => hI.v0 (by simpa [more] using h), fun h => hI.v1 (by simpa [more] using h), fun h => hI.v2 (by simpa [more] using h), fun h => hI.v3 (by simpa [more] using h), fun h => hI.v4 (by simpa [more] using h), hI.fb.other f2 _ _, by simpa [more] using hI.nb.set h1 0 (.int .i64 (i : Nat)), by simpa [more] using hI.pb.put (i : Nat), by simpa [more] using hI.eb.other h3.symm 0 (.int .i64 (i : Nat)), hI.be.setCell (p := ⟨P, 0, none⟩) k2 _⟩
      case s7 =>
        have hv := hI.v4 (hE ⟨4, .data⟩ (by simp) rfl)
        have hp := (show T a 2 = T act 2 by unfold T; rw [hI.fr 2 (by decide)]).trans hT2
        have t0 := hI.eb.cell
        have y0 := hI.eb.frozen
        refine ob_skip (w' := u.setCell ⟨E, 0, none⟩ (.int .i64 (e : Nat))) ?_ ?_
        · unfold T at hv hp
          simp [execOp, Act.eval, hv, hp, go_sem, t0, y0]
        · exact ⟨hI.sz, hI.df, hI.fr, fun h => hI.v0 (by simpa [more] using h), fun h => hI.v1 (by simpa [more] using h), fun h => hI.v2 (by simpa [more] using h), fun h => hI.v3 (by simpa [more] using h), fun h => hI.v4 (by simpa [more] using h), hI.fb.other f3 _ _, by simpa [more] using hI.nb.set h2 0 (.int .i64 (e : Nat)), by simpa [more] using hI.pb.other h3 0 (.int .i64 (e : Nat)), by simpa [more] using hI.eb.put (e : Nat), hI.be.setCell (p := ⟨E, 0, none⟩) k3 _⟩
    intro k p hp
    have := allFrom_at h k p (by simpa using hp)
    rwa [Nat.zero_add] at this
end Go.Proofs.Ytjmbimgofceanaa

