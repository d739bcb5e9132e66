/- Plain: a past as a value; what it is shown; lines. -/
import Derived.Test.YtobbcgendjakiaaG27
namespace Go.Proofs.Ytobbcgendjakiaa
open Go.RowKit Sf

structure Pv where
  sh : Int × Int → List UInt8
  gn : Int → Nat
  lb : ByteArray → Nat × List Int
namespace Pv
def new : Pv := ⟨fun _ => [], fun _ => 0, fun _ => (0, [])⟩
def arr (p : Pv) (s : ByteArray) (q n : Nat) : Pv := if (p.lb s).1 < q then ⟨p.sh, p.gn, fun t => if t = s then (q, (p.lb s).2 ++ [(n : Int)]) else p.lb t⟩ else p
def gens (p : Pv) (n g : Nat) : Pv := ⟨p.sh, fun m => if m = (n : Int) then max (p.gn n) (g + 1) else p.gn m, p.lb⟩
def more (p : Pv) (n g : Nat) (bs : List UInt8) : Pv := if bs.length ≤ (p.sh (n, g)).length then p else ⟨fun k => if k = ((n : Int), (g : Int)) then p.sh (n, g) ++ bs.drop (p.sh (n, g)).length else p.sh k, p.gn, p.lb⟩
def grow (p : Pv) (n g : Nat) (bs : List UInt8) : Pv := (p.gens n g).more n g bs
def one (d : Dk) (p : Pv) (s : ByteArray) : Pv := match d.ino (num d s) with
  | some f => (p.arr s (ser d s) (num d s)).grow (num d s) f.gen f.bs
  | none => p
def see (d : Dk) (p : Pv) : Pv := (nmL d).foldl (fun p s => one d p ⟨s.toArray⟩) p
/-- what is known stays -/
structure Le (p q : Pv) : Prop where
  sh : ∀ k, p.sh k <+: q.sh k
  gn : ∀ n, p.gn n ≤ q.gn n
  lb : ∀ s, (p.lb s).2 <+: (q.lb s).2
theorem Le.refl (p : Pv) : Le p p := ⟨fun _ => List.prefix_refl _, fun _ => Nat.le_refl _, fun _ => List.prefix_refl _⟩
theorem Le.trans {p q r : Pv} (h : Le p q) (h2 : Le q r) : Le p r := ⟨fun k => (h.sh k).trans (h2.sh k), fun n => Nat.le_trans (h.gn n) (h2.gn n), fun s => (h.lb s).trans (h2.lb s)⟩
theorem le_arr (p : Pv) (s : ByteArray) (q n : Nat) : Le p (p.arr s q n) := by
  unfold arr
  split
  · refine ⟨fun _ => List.prefix_refl _, fun _ => Nat.le_refl _, fun t => ?_⟩
    by_cases e : t = s
    · subst e
      simp only [if_true]
      exact List.prefix_append _ _
    · simp only [if_neg e]
      exact List.prefix_refl _
  · exact Le.refl p
theorem le_gens (p : Pv) (n g : Nat) : Le p (p.gens n g) := by
  refine ⟨fun _ => List.prefix_refl _, fun m => ?_, fun _ => List.prefix_refl _⟩
  show p.gn m ≤ if m = (n : Int) then max (p.gn n) (g + 1) else p.gn m
  by_cases e : m = (n : Int)
  · subst e; rw [if_pos rfl]; omega
  · rw [if_neg e]; exact Nat.le_refl _
theorem le_more (p : Pv) (n g : Nat) (bs : List UInt8) : Le p (p.more n g bs) := by
  unfold more
  split
  · exact Le.refl p
  · refine ⟨fun k => ?_, fun _ => Nat.le_refl _, fun _ => List.prefix_refl _⟩
    by_cases e : k = ((n : Int), (g : Int))
    · subst e
      simp only [if_true]
      exact List.prefix_append _ _
    · simp only [if_neg e]
      exact List.prefix_refl _
theorem le_one (d : Dk) (p : Pv) (s : ByteArray) : Le p (one d p s) := by
  unfold one
  split
  · exact (le_arr p s _ _).trans ((le_gens _ _ _).trans (le_more _ _ _ _))
  · exact Le.refl p
theorem le_fold (d : Dk) : ∀ (l : List (List UInt8)) (p : Pv), Le p (l.foldl (fun p s => one d p ⟨s.toArray⟩) p)
  | [], p => Le.refl p
  | _ :: l, p => (le_one d p _).trans (le_fold d l _)
theorem le_see (d : Dk) (p : Pv) : Le p (see d p) := le_fold d _ p
end Pv
/-! ### lines -/
def lns : Nat → List UInt8 → List UInt8 → List (Nat × List UInt8)
  | _, _, [] => []
  | s, cur, c :: r => if c = 10 then (s, cur) :: lns (s + cur.length + 1) [] r else lns s (cur ++ [c]) r
def lines (t : List UInt8) : List (Nat × List UInt8) := lns 0 [] t
theorem lns_prefix : ∀ (t u : List UInt8) (s : Nat) (cur : List UInt8), t <+: u → lns s cur t <+: lns s cur u
  | [], u, s, cur, _ => List.nil_prefix
  | c :: r, [], s, cur, h => by simp at h
  | c :: r, c' :: r', s, cur, h => by
    obtain ⟨rfl, h2⟩ := List.cons_prefix_cons.1 h
    unfold lns
    split
    · exact List.cons_prefix_cons.2 ⟨rfl, lns_prefix r r' _ _ h2⟩
    · exact lns_prefix r r' _ _ h2
theorem lines_prefix {t u : List UInt8} (h : t <+: u) : lines t <+: lines u := lns_prefix t u 0 [] h
theorem lns_none : ∀ (t : List UInt8) (s : Nat) (cur : List UInt8), t.contains 10 = false → lns s cur t = []
  | [], _, _, _ => rfl
  | c :: r, s, cur, h => by
    simp only [List.contains_cons, Bool.or_eq_false_iff] at h
    unfold lns
    rw [if_neg (by intro e; rw [e] at h; simp at h)]
    exact lns_none r s _ h.2
theorem lns_some : ∀ (l r : List UInt8) (s : Nat) (cur : List UInt8), l.contains 10 = false → lns s cur (l ++ 10 :: r) = (s, cur ++ l) :: lns (s + (cur ++ l).length + 1) [] r
  | [], r, s, cur, _ => by
    show lns s cur (10 :: r) = _
    rw [lns, if_pos rfl, List.append_nil]
  | c :: l, r, s, cur, h => by
    simp only [List.contains_cons, Bool.or_eq_false_iff] at h
    show lns s cur (c :: (l ++ 10 :: r)) = _
    rw [lns, if_neg (by intro e; rw [e] at h; simp at h), lns_some l r s _ h.2]
    simp
theorem lns_len : ∀ (t : List UInt8) (s : Nat) (cur : List UInt8), (lns s cur t).length ≤ t.length
  | [], _, _ => Nat.le_refl _
  | c :: r, s, cur => by
    unfold lns
    split
    · simp only [List.length_cons]
      have := lns_len r (s + cur.length + 1) []
      omega
    · have := lns_len r s (cur ++ [c])
      simp only [List.length_cons]
      omega
end Go.Proofs.Ytobbcgendjakiaa
