
import Derived.Test.YtmjnobdlgbojoaaGreatDoorG29
import Derived.Test.YtmjnobdlgbojoaaGreatDoorG17
import Derived.Test.YtmjnobdlgbojoaaGreatDoorG28
import Derived.Test.YtmjnobdlgbojoaaGreatDoorG18
import Derived.Deep.AppendSrc
import Derived.Laws.CopyOwn
namespace Go.Proofs.YtmjnobdlgbojoaaGreatDoor
def Goes (n : Nat) (T : Nat → Nat → Prop) : Prop := ∀ i j, T i j → i ≤ n → i ≤ j ∧ j ≤ n
theorem goes_pow {n : Nat} {T : Nat → Nat → Prop} (h : Goes n T) : ∀ m, Goes n (powR T m)
  | 0 => fun i j hp hi => by
    have hp : j = i := hp
    omega
  | m + 1 => fun i j hp hi => by
    obtain ⟨k, h1, h2⟩ := hp
    have a := h i k h1 hi
    have b := goes_pow h m k j h2 a.2
    omega
theorem goes_S {line : ByteArray} : ∀ (ts : List Tn), (∀ t ∈ ts, Goes line.size (Tk line t)) → Goes line.size (TkS line ts)
  | [], _ => fun i j h hi => by
    rw [TkS] at h
    omega
  | t :: ts, hs => fun i j h hi => by
    rw [TkS] at h
    obtain ⟨k, h1, h2⟩ := h
    have a := hs t (by simp) i k h1 hi
    have b := goes_S ts (fun u hu => hs u (by simp [hu])) k j h2 a.2
    omega
theorem goes_A {line : ByteArray} : ∀ (ts : List Tn), (∀ t ∈ ts, Goes line.size (Tk line t)) → Goes line.size (TkA line ts)
  | [], _ => fun i j h hi => by rw [TkA] at h; exact h.elim
  | t :: ts, hs => fun i j h hi => by
    rw [TkA] at h
    rcases h with h | h
    · exact hs t (by simp) i j h hi
    · exact goes_A ts (fun u hu => hs u (by simp [hu])) i j h hi
theorem goes_H {line : ByteArray} (ts : List Tn) (hs : ∀ t ∈ ts, Goes line.size (Tk line t)) : Goes line.size (TkH line ts) := fun i j h hi => by
  cases ts with
  | nil => rw [TkH] at h; exact h.elim
  | cons t ts => rw [TkH] at h; exact hs t (by simp) i j h hi
theorem goes_tk {line : ByteArray} : ∀ (z : Nat) (t : Tn), SizeOf.sizeOf t ≤ z → Goes line.size (Tk line t)
  | 0, .mk k s subs mn mx, hz => by simp at hz
  | z + 1, .mk k s subs mn mx, hz => by
    have ih : ∀ t ∈ subs, Goes line.size (Tk line t) := fun t ht => goes_tk z t (by
      have := List.sizeOf_lt_of_mem ht
      simp at hz
      omega)
    intro i j h hi
    rw [Tk] at h
    split at h
    · omega
    split at h
    · omega
    split at h
    · exact goes_S subs ih i j h hi
    split at h
    · exact goes_A subs ih i j h hi
    split at h
    · obtain ⟨n, _, _, hp⟩ := h
      exact goes_pow (goes_H subs ih) n i j hp hi
    split at h
    · omega
    split at h
    · omega
    · exact h.elim
theorem tk_goes {line : ByteArray} (t : Tn) : Goes line.size (Tk line t) := goes_tk _ t (Nat.le_refl _)
def Ups (T : Nat → Nat → Prop) : Prop := ∀ i j, T i j → i ≤ j
theorem ups_pow {T : Nat → Nat → Prop} (h : Ups T) : ∀ m, Ups (powR T m)
  | 0 => fun i j hp => by
    have hp : j = i := hp
    omega
  | m + 1 => fun i j hp => by
    obtain ⟨k, h1, h2⟩ := hp
    have a := h i k h1
    have b := ups_pow h m k j h2
    omega
theorem ups_S {line : ByteArray} : ∀ (ts : List Tn), (∀ t ∈ ts, Ups (Tk line t)) → Ups (TkS line ts)
  | [], _ => fun i j h => by
    rw [TkS] at h
    omega
  | t :: ts, hs => fun i j h => by
    rw [TkS] at h
    obtain ⟨k, h1, h2⟩ := h
    have a := hs t (by simp) i k h1
    have b := ups_S ts (fun u hu => hs u (by simp [hu])) k j h2
    omega
theorem ups_A {line : ByteArray} : ∀ (ts : List Tn), (∀ t ∈ ts, Ups (Tk line t)) → Ups (TkA line ts)
  | [], _ => fun i j h => by rw [TkA] at h; exact h.elim
  | t :: ts, hs => fun i j h => by
    rw [TkA] at h
    rcases h with h | h
    · exact hs t (by simp) i j h
    · exact ups_A ts (fun u hu => hs u (by simp [hu])) i j h
theorem ups_H {line : ByteArray} (ts : List Tn) (hs : ∀ t ∈ ts, Ups (Tk line t)) : Ups (TkH line ts) := fun i j h => by
  cases ts with
  | nil => rw [TkH] at h; exact h.elim
  | cons t ts => rw [TkH] at h; exact hs t (by simp) i j h
theorem ups_tk {line : ByteArray} : ∀ (z : Nat) (t : Tn), SizeOf.sizeOf t ≤ z → Ups (Tk line t)
  | 0, .mk k s subs mn mx, hz => by simp at hz
  | z + 1, .mk k s subs mn mx, hz => by
    have ih : ∀ t ∈ subs, Ups (Tk line t) := fun t ht => ups_tk z t (by
      have := List.sizeOf_lt_of_mem ht
      simp at hz
      omega)
    intro i j h
    rw [Tk] at h
    split at h
    · omega
    split at h
    · omega
    split at h
    · exact ups_S subs ih i j h
    split at h
    · exact ups_A subs ih i j h
    split at h
    · obtain ⟨n, _, _, hp⟩ := h
      exact ups_pow (ups_H subs ih) n i j hp
    split at h
    · omega
    split at h
    · omega
    · exact h.elim
theorem tk_up {line : ByteArray} (t : Tn) : Ups (Tk line t) := ups_tk _ t (Nat.le_refl _)
theorem pow_drop {n : Nat} {T : Nat → Nat → Prop} (h : Goes n T) : ∀ (m i j : Nat), powR T m i j → i ≤ n → n - i < m → powR T (m - 1) i j
  | 0, i, j, _, _, hm => by omega
  | m + 1, i, j, hp, hi, hm => by
    obtain ⟨k, h1, h2⟩ := hp
    have a := h i k h1 hi
    by_cases e : k = i
    · subst e
      exact h2
    · cases m with
      | zero => omega
      | succ m =>
        have := pow_drop h (m + 1) k j h2 a.2 (by omega)
        exact ⟨k, h1, this⟩
theorem pow_few {n : Nat} {T : Nat → Nat → Prop} (h : Goes n T) {mn : Nat} : ∀ (d m i j : Nat), m = mn + n + d → powR T m i j → i ≤ n → ∃ m', mn ≤ m' ∧ m' ≤ mn + n ∧ m' ≤ m ∧ powR T m' i j
  | 0, m, i, j, hm, hp, hi => ⟨m, by omega, by omega, by omega, hp⟩
  | d + 1, m, i, j, hm, hp, hi => by
    obtain ⟨m', a, b, c, e⟩ := pow_few h (mn := mn) d (m - 1) i j (by omega) (pow_drop h m i j hp hi (by omega)) hi
    exact ⟨m', a, b, by omega, e⟩
theorem times_few {n : Nat} {T : Nat → Nat → Prop} (h : Goes n T) {mn : Nat} {mx : Int} {i j : Nat} (hi : i ≤ n) : (∃ m : Nat, (mn : Int) ≤ m ∧ (mx = -1 ∨ (m : Int) ≤ mx) ∧ powR T m i j) ↔ ∃ m : Nat, mn ≤ m ∧ m ≤ mn + n + 1 ∧ (mx = -1 ∨ (m : Int) ≤ mx) ∧ powR T m i j := by
  constructor
  · rintro ⟨m, h1, h2, h3⟩
    by_cases hm : m ≤ mn + n
    · exact ⟨m, by omega, by omega, h2, h3⟩
    · obtain ⟨m', a, b, c, e⟩ := pow_few h (mn := mn) (m - (mn + n)) m i j (by omega) h3 hi
      exact ⟨m', a, by omega, by omega, e⟩
  · rintro ⟨m, h1, _, h2, h3⟩
    exact ⟨m, by omega, h2, h3⟩
def sc : Tn → Nat
  | .mk _ _ subs _ _ => 1 + scs subs
where scs : List Tn → Nat
  | [] => 0
  | t :: ts => sc t + 10 + scs ts
end Go.Proofs.YtmjnobdlgbojoaaGreatDoor


namespace Go.Proofs.YtmjnobdlgbojoaaGreatDoor
open Go.RowKit
attribute [local go_sem ↓] Go.wp_at_zero Go.wp_at_succ
inductive NwAt (X : Nat → Prop) (w : World) : Tn → Nd → Prop
  | mk (k : Int) (s : Oct.S) (subs : List Tn) (mn mx : Int) (a : Option Addr) (n c : Nat) (vs : List Nd) (hn : n = subs.length) (hl : vs.length = n) (hm : n ≤ 1000000) (hr : RowAt X w a vs)
      (hs : ∀ (i : Nat) (t : Tn) (v : Nd), subs[i]? = some t → vs[i]? = some v → NwAt X w t v) : NwAt X w (.mk k s subs mn mx) ⟨k, s, a, n, c, mn, mx⟩
theorem NwAt.keep {X Y : Nat → Prop} {w w' : World} {t : Tn} {x : Nd} (h : NwAt X w t x) (hXY : ∀ b, X b → b < w.heap.size → Y b) (hk : ∀ b, X b → b < w.heap.size → w'.heap[b]? = w.heap[b]?) : NwAt Y w' t x := by
  induction h with
  | mk k s subs mn mx a n c vs hn hl hm hr hs ih => exact .mk k s subs mn mx a n c vs hn hl hm (hr.keep hXY hk) (fun i t v ht hv => ih i t v ht hv)
theorem NwAt.later {X : Nat → Prop} {w w' : World} {t : Tn} {x : Nd} (h : NwAt X w t x) (hb : Below w.heap.size w w') : NwAt X w' t x := h.keep (fun _ h _ => h) (fun b _ hlt => hb.block b hlt)
theorem NwAt.kind {X : Nat → Prop} {w : World} {t : Tn} {x : Nd} (h : NwAt X w t x) : x.k = kindT t := by
  cases h
  rfl
theorem NwAt.leaf (X : Nat → Prop) (w : World) (k : Int) (s : Oct.S) (mn mx : Int) (a : Option Addr) (c : Nat) : NwAt X w (.mk k s [] mn mx) ⟨k, s, a, 0, c, mn, mx⟩ :=
  .mk k s [] mn mx a 0 c [] rfl rfl (Nat.zero_le _) (Or.inl rfl) (fun i t v h => by simp at h)
theorem infoN : (Tryz.prog.info? 30).map (fun i => (i.zero, i.size, i.bytes)) = some (some (.agg #[.int .i64 0, .int .u64 0, .int .u64 0, .int .u64 0, .int .u64 0, .slice none 0 0, .int .i64 0, .int .i64 0]), 8, 80) := by kernel_rfl
def RowN (w : World) (base : Nat) (V : Value) (ts : List Tn) : Prop :=
  ∃ vs : List Nd, vs.length = ts.length ∧ w.ownsRow base 30 8 V ts.length (flatN vs) ∧ ∀ (i : Nat) (t : Tn) (v : Nd), ts[i]? = some t → vs[i]? = some v → NwAt (fun b => base ≤ b ∧ V.ownBlock ≠ some b) w t v
theorem rowN_nil (w : World) (base : Nat) : RowN w base (.slice none 0 0) [] := ⟨[], rfl, World.ownsRow_nil w base 30 8, fun i t v h => by simp at h⟩
theorem RowN.keep {w w' : World} {base : Nat} {V : Value} {ts : List Tn} (h : RowN w base V ts) (hk : ∀ b, base ≤ b → b < w.heap.size → w'.heap[b]? = w.heap[b]?) : RowN w' base V ts := by
  obtain ⟨vs, h1, h2, h3⟩ := h
  exact ⟨vs, h1, ownsRow_keep h2 (fun g _ hb hlt => hk g hb hlt), fun i t v ht hv => (h3 i t v ht hv).keep (fun _ h _ => h) (fun b hb hlt => hk b hb.1 hlt)⟩
theorem RowN.form {w : World} {base : Nat} {V : Value} {ts : List Tn} (h : RowN w base V ts) : ∃ (a : Option Addr) (c : Nat), V = .slice a ts.length c ∧ ts.length ≤ c ∧ c ≤ maxLen := by
  obtain ⟨vs, _, h2, _⟩ := h
  rcases h2.2 with ⟨hv, hn⟩ | ⟨g, cap, cur, hv, hbg, hg, h1, h2, h3, h4⟩
  · exact ⟨none, 0, by rw [hv, hn], by omega, by decide⟩
  · exact ⟨_, cap, hv, h1, h2⟩
theorem RowN.own {w : World} {base : Nat} {V : Value} {ts : List Tn} (h : RowN w base V ts) : ∀ k, V.ownBlock = some k → base ≤ k ∧ k < w.heap.size := by
  obtain ⟨vs, _, h2, _⟩ := h
  intro k hk
  rcases h2.2 with ⟨rfl, _⟩ | ⟨g, _, _, rfl, hb, hg, _⟩
  · simp [Value.ownBlock] at hk
  · simp [Value.ownBlock] at hk
    subst hk
    exact ⟨hb, (Array.getElem?_eq_some_iff.1 hg).1⟩
theorem RowN.node {w : World} {base n c : Nat} {a : Option Addr} {ts : List Tn} (h : RowN w base (.slice a n c) ts) (hn : n = ts.length) (hm : n ≤ 1000000) (k : Int) (mn mx : Int) : NwAt (fun b => base ≤ b) w (.mk k Oct.none ts mn mx) ⟨k, Oct.none, a, n, c, mn, mx⟩ := by
  obtain ⟨vs, h1, h2, h3⟩ := h
  refine .mk k Oct.none ts mn mx a n c vs hn (by omega) hm ?_ (fun i t v ht hv => (h3 i t v ht hv).keep (fun b hb _ => hb.1) (fun _ _ _ => rfl))
  rcases h2.2 with ⟨hv, hz⟩ | ⟨g, cap, cur, hv, hbg, hg, g1, g2, g3, g4⟩
  · exact Or.inl (List.length_eq_zero_iff.1 (h1.trans hz))
  · cases hv
    refine Or.inr ⟨g, 0, rfl, hbg, fun j v hj => ?_⟩
    have hlt := (List.getElem?_eq_some_iff.1 hj).1
    rw [flatN_length] at hlt
    rw [← g4, List.getElem?_take_of_lt (by omega)] at hj
    simp only [World.cell?, hg, Nat.zero_add]
    simpa using hj
theorem RowN.first {w : World} {base c : Nat} {a : Option Addr} {t : Tn} (h : RowN w base (.slice a 1 c) [t]) : ∃ g x, a = some ⟨g, 0, none⟩ ∧ NwAt (fun b => base ≤ b) w t x ∧ (∀ j v, x.cells[j]? = some v → w.cell? ⟨g, j, none⟩ = some v) := by
  obtain ⟨vs, h1, h2, h3⟩ := h
  match vs, h1 with
  | [x], _ =>
    rcases h2.2 with ⟨hv, hz⟩ | ⟨g, cap, cur, hv, hbg, hg, g1, g2, g3, g4⟩
    · simp at hz
    · cases hv
      refine ⟨g, x, rfl, (h3 0 t x rfl rfl).keep (fun b hb _ => hb.1) (fun _ _ _ => rfl), fun j v hj => ?_⟩
      have e : flatN [x] = x.cells := by simp [flatN]
      have hlt := (List.getElem?_eq_some_iff.1 hj).1
      have hl : x.cells.length = 8 := rfl
      rw [← e, ← g4, List.getElem?_take_of_lt (by simp; omega)] at hj
      simp only [World.cell?, hg]
      simpa using hj
theorem run_append_nodeN (w : World) (ty : TypeId) (base : Nat) (V : Value) (ts : List Tn) (h : RowN w base V ts) (ad : Addr) (cap : Nat) (x : Nd) (t : Tn) (hx : NwAt (fun b => base ≤ b ∧ V.ownBlock ≠ some b) w t x) (hc : ∀ j v, x.cells[j]? = some v → w.cell? (ad.add j) = some v) (hl : ts.length ≤ 1000000) (hb : base ≤ w.heap.size) :
    ∃ g cap' w', (Builtin.append_ #[24, 24] ty #[V, .slice (some ad) 1 cap]).run Tryz.prog w = .ok (.slice (some ⟨g, 0, none⟩) (ts.length + 1) cap') w' ∧ RowN w' base (.slice (some ⟨g, 0, none⟩) (ts.length + 1) cap') (ts ++ [t]) ∧ w.grownBy w' V.ownBlock := by
  have hvb := h.own
  obtain ⟨vs, h1, h2, h5⟩ := h
  obtain ⟨i0, hi, hz0, hz1, hz2⟩ := info_parts infoN
  obtain ⟨g, cap', w', hr, ho, hg, hgg, hlt⟩ := run_append_lies (P := Tryz.prog) w 24 ty base 30 i0 _ 8 80 Tryz.underlying24 hi hz0 hz1 hz2 rfl (by decide) V ts.length (flatN vs) h2 ad 1 cap x.cells rfl hc
    (by have := flatN_one [x]; simpa [flatN] using this) (by decide) (by simp only [maxLen]; omega) (by omega) hb w.heap.size rfl
  have hkeep : ∀ (t' : Tn) (v' : Nd), NwAt (fun b => base ≤ b ∧ V.ownBlock ≠ some b) w t' v' → NwAt (fun b => base ≤ b ∧ (Value.slice (some ⟨g, 0, none⟩) (ts.length + 1) cap').ownBlock ≠ some b) w' t' v' := fun t' v' hn =>
    hn.keep (fun b hb hlt => ⟨hb.1, by
      simp only [Value.ownBlock, ne_eq, Option.some.injEq]
      rcases hgg with hgg | hgg
      · intro e; subst e; exact hb.2 hgg
      · omega⟩) (fun b hb hlt => hg.block b hlt (fun e => hb.2 e.symm))
  refine ⟨g, cap', w', hr, ⟨vs ++ [x], by simp [h1], ?_, fun i t' v' ht hv => ?_⟩, hg⟩
  · rw [flatN_append, List.length_append]
    have e : flatN [x] = x.cells := by simp [flatN]
    rw [e]
    exact ho
  · by_cases hlt2 : i < ts.length
    · rw [List.getElem?_append_left hlt2] at ht
      rw [List.getElem?_append_left (by omega)] at hv
      exact hkeep t' v' (h5 i t' v' ht hv)
    · rw [List.getElem?_append_right (by omega)] at ht
      rw [List.getElem?_append_right (by omega), h1] at hv
      have e0 : i - ts.length = 0 := by
        have := (List.getElem?_eq_some_iff.1 ht).1
        simp at this
        omega
      rw [e0] at ht hv
      simp at ht hv
      subst ht hv
      exact hkeep t x hx
theorem wpList_append_nodeN {w : World} {ops : Array Oper} {rest : List Oper} {o : Oper} {a : Act} {Q : Exit → Act → World → Prop} (hgd : o.guard = none) (s y : Operand)
    (ho : o.op = .call { callee := .builtin .append, args := #[s, y], argTypes := #[24, 24] })
    (base : Nat) (V : Value) (ts : List Tn) (hs : a.eval s = V) (hn : RowN w base V ts) (ad : Addr) (cap : Nat) (x : Nd) (t : Tn) (hy : a.eval y = .slice (some ad) 1 cap) (hx : NwAt (fun b => base ≤ b ∧ V.ownBlock ≠ some b) w t x) (hc : ∀ j v, x.cells[j]? = some v → w.cell? (ad.add j) = some v) (hl : ts.length ≤ 1000000) (hb : base ≤ w.heap.size)
    (h : ∀ g cap' w', RowN w' base (.slice (some ⟨g, 0, none⟩) (ts.length + 1) cap') (ts ++ [t]) → w.grownBy w' V.ownBlock → wpList Tryz.prog ops Q rest (a.put o.dst (.slice (some ⟨g, 0, none⟩) (ts.length + 1) cap')) w') : wpList Tryz.prog ops Q (o :: rest) a w := by
  refine wpList_plain hgd fun K hK => ?_
  obtain ⟨g, cap', w', hr, h2, h3⟩ := run_append_nodeN w o.type base V ts hn ad cap x t hx hc hl hb
  unfold Oper.wp execOp
  simp only [ho, resolve, invoke, builtin, Sem.run_bind, Sem.run_pure, Result.andThen_ok, List.map_toArray, List.map_cons, List.map_nil, hs, hy, hr]
  exact hK _ _ (h g cap' w' h2 h3)
theorem cells_newN (u : World) (x : Nd) : ∀ j v, x.cells[j]? = some v → (u.alloc (.cells #[.int .i64 x.k, .int .u64 (Oct.word x.s 0 : Nat), .int .u64 (Oct.word x.s 1 : Nat), .int .u64 (Oct.word x.s 2 : Nat), .int .u64 (Oct.word x.s 3 : Nat), .slice x.a x.n x.c, .int .i64 x.mn, .int .i64 x.mx] 30)).cell? ((⟨u.heap.size, 0, none⟩ : Addr).add j) = some v := by
  intro j v hj
  rw [Go.WideShapes.add_plain, Nat.zero_add, World.cell?_alloc_mark]
  simpa [Nd.cells] using hj
theorem rowN_one {u : World} {base : Nat} {t : Tn} {x : Nd} (hx : NwAt (fun b => base ≤ b) u t x) (hb : base ≤ u.heap.size) : RowN (u.alloc (.cells #[.int .i64 x.k, .int .u64 (Oct.word x.s 0 : Nat), .int .u64 (Oct.word x.s 1 : Nat), .int .u64 (Oct.word x.s 2 : Nat), .int .u64 (Oct.word x.s 3 : Nat), .slice x.a x.n x.c, .int .i64 x.mn, .int .i64 x.mx] 30)) base (.slice (some ⟨u.heap.size, 0, none⟩) 1 1) [t] := by
  refine ⟨[x], rfl, ⟨by rw [flatN_length]; rfl, Or.inr ⟨u.heap.size, 1, _, rfl, hb, heap_alloc_new u _, Nat.le_refl _, by simp [maxLen], rfl, by simp [flatN, Nd.cells]⟩⟩, fun i t' v' h1 h2 => ?_⟩
  cases i with
  | zero =>
    simp at h1 h2
    subst h1 h2
    exact hx.keep (fun b hb2 hlt => ⟨hb2, by simp [Value.ownBlock]; omega⟩) (fun b _ hlt => ((Below.refl _ u).alloc (Nat.le_refl _) _).block b hlt)
  | succ i => simp at h1
def Fil (w : World) (base G n : Nat) (ts : List Tn) : Prop := base ≤ G ∧ n ≤ 1000000 ∧ ∃ (cur : Array Value) (vs : List Nd), w.heap[G]? = some (.cells cur 30 (0, 0)) ∧ cur.size = n * 8 ∧ vs.length = ts.length ∧ ts.length ≤ n ∧ cur.toList.take (ts.length * 8) = flatN vs ∧ ∀ (i : Nat) (t : Tn) (v : Nd), ts[i]? = some t → vs[i]? = some v → NwAt (fun b => base ≤ b ∧ b ≠ G) w t v
theorem Fil.lt {w : World} {base G n : Nat} {ts : List Tn} (h : Fil w base G n ts) : G < w.heap.size := by
  obtain ⟨_, _, cur, vs, h1, _⟩ := h
  exact (Array.getElem?_eq_some_iff.1 h1).1
theorem Fil.later {w w' : World} {base G n : Nat} {ts : List Tn} (h : Fil w base G n ts) (hb : Below w.heap.size w w') : Fil w' base G n ts := by
  have hlt := h.lt
  obtain ⟨h0, h00, cur, vs, h1, h2, h3, h4, h5, h6⟩ := h
  exact ⟨h0, h00, cur, vs, (hb.block G hlt).trans h1, h2, h3, h4, h5, fun i t v ht hv => (h6 i t v ht hv).later hb⟩
theorem Fil.cell {w : World} {base G n : Nat} {ts : List Tn} (h : Fil w base G n ts) (j : Nat) (hj : j < n * 8) : ∃ v, w.cell? ⟨G, j, none⟩ = some v := by
  obtain ⟨h0, h00, cur, vs, h1, h2, h3, h4, h5, h6⟩ := h
  refine ⟨cur[j]'(by omega), ?_⟩
  simp [World.cell?, h1, show j < cur.size by omega]
theorem Fil.frozen {w : World} {base G n : Nat} {ts : List Tn} (h : Fil w base G n ts) (j : Nat) : w.frozen? ⟨G, j, none⟩ = false := by
  obtain ⟨h0, h00, cur, vs, h1, h2⟩ := h
  simp [World.frozen?, h1]
def putN (w : World) (A o : Nat) (x : Nd) : World := ((((((((w.setCell ⟨A, o, none⟩ (.int .i64 x.k)).setCell ⟨A, o + 1, none⟩ (.int .u64 (Oct.word x.s 0 : Nat))).setCell ⟨A, o + 2, none⟩ (.int .u64 (Oct.word x.s 1 : Nat))).setCell ⟨A, o + 3, none⟩ (.int .u64 (Oct.word x.s 2 : Nat))).setCell ⟨A, o + 4, none⟩ (.int .u64 (Oct.word x.s 3 : Nat))).setCell ⟨A, o + 5, none⟩ (.slice x.a x.n x.c)).setCell ⟨A, o + 6, none⟩ (.int .i64 x.mn)).setCell ⟨A, o + 7, none⟩ (.int .i64 x.mx))
theorem heap_putN (w : World) (A o : Nat) (x : Nd) (b : Nat) (h : b ≠ A) : (putN w A o x).heap[b]? = w.heap[b]? := by
  unfold putN
  rw [Below.heap_setCell _ ⟨A, o + 7, none⟩ _ b h, Below.heap_setCell _ ⟨A, o + 6, none⟩ _ b h, Below.heap_setCell _ ⟨A, o + 5, none⟩ _ b h, Below.heap_setCell _ ⟨A, o + 4, none⟩ _ b h, Below.heap_setCell _ ⟨A, o + 3, none⟩ _ b h, Below.heap_setCell _ ⟨A, o + 2, none⟩ _ b h, Below.heap_setCell _ ⟨A, o + 1, none⟩ _ b h, Below.heap_setCell _ ⟨A, o, none⟩ _ b h]
theorem below_putN {w u : World} {base : Nat} (h : Below base w u) {G : Nat} (hG : base ≤ G) (o : Nat) (x : Nd) : Below base w (putN u G o x) := by
  unfold putN
  exact ((((((((h.setCell (p := ⟨G, o, none⟩) hG _).setCell (p := ⟨G, o + 1, none⟩) hG _).setCell (p := ⟨G, o + 2, none⟩) hG _).setCell (p := ⟨G, o + 3, none⟩) hG _).setCell (p := ⟨G, o + 4, none⟩) hG _).setCell (p := ⟨G, o + 5, none⟩) hG _).setCell (p := ⟨G, o + 6, none⟩) hG _).setCell (p := ⟨G, o + 7, none⟩) hG _)
theorem Fil.put {w : World} {base G n : Nat} {ts : List Tn} (h : Fil w base G n ts) (hm : ts.length < n) {x : Nd} {t : Tn} (hx : NwAt (fun b => base ≤ b ∧ b ≠ G) w t x) : Fil (putN w G (ts.length * 8) x) base G n (ts ++ [t]) := by
  obtain ⟨h0, h00, cur, vs, hg, h2, h3, h4, h5, h6⟩ := h
  obtain ⟨m, hmm⟩ : ∃ m, ts.length = m := ⟨_, rfl⟩
  rw [hmm] at hm h4 h5 h3 ⊢
  have hs : cur.size = cur.toList.length := by simp
  have e := (heap_set (heap_set (heap_set (heap_set (heap_set (heap_set (heap_set (heap_set hg (m * 8) (.int .i64 x.k)) (m * 8 + 1) (.int .u64 (Oct.word x.s 0 : Nat))) (m * 8 + 2) (.int .u64 (Oct.word x.s 1 : Nat))) (m * 8 + 3) (.int .u64 (Oct.word x.s 2 : Nat))) (m * 8 + 4) (.int .u64 (Oct.word x.s 3 : Nat))) (m * 8 + 5) (.slice x.a x.n x.c)) (m * 8 + 6) (.int .i64 x.mn)) (m * 8 + 7) (.int .i64 x.mx))
  have hk : ∀ (t' : Tn) (v' : Nd), NwAt (fun b => base ≤ b ∧ b ≠ G) w t' v' → NwAt (fun b => base ≤ b ∧ b ≠ G) (putN w G (m * 8) x) t' v' := fun t' v' hn => hn.keep (fun _ h _ => h) (fun b hb _ => heap_putN w G (m * 8) x b hb.2)
  refine ⟨h0, h00, _, vs ++ [x], e, by simp only [Array.size_setIfInBounds]; exact h2, by simp [h3, hmm], by simp [hmm]; omega, ?_, fun i t' v' ht hv => ?_⟩
  · rw [flatN_append, List.length_append, hmm, ← h5]
    have e1 : flatN [x] = [.int .i64 x.k, .int .u64 (Oct.word x.s 0 : Nat), .int .u64 (Oct.word x.s 1 : Nat), .int .u64 (Oct.word x.s 2 : Nat), .int .u64 (Oct.word x.s 3 : Nat), .slice x.a x.n x.c, .int .i64 x.mn, .int .i64 x.mx] := by simp [flatN, Nd.cells]
    rw [e1]
    show List.take ((m + 1) * 8) _ = _
    simp only [Array.toList_setIfInBounds]
    apply List.ext_getElem?
    intro j
    have hl : (cur.toList.take (m * 8)).length = m * 8 := by rw [List.length_take]; omega
    by_cases hj : j < m * 8
    · rw [List.getElem?_append_left (by omega), List.getElem?_take_of_lt (by omega), List.getElem?_take_of_lt hj]
      rw [List.getElem?_set_ne (by omega), List.getElem?_set_ne (by omega), List.getElem?_set_ne (by omega), List.getElem?_set_ne (by omega), List.getElem?_set_ne (by omega), List.getElem?_set_ne (by omega), List.getElem?_set_ne (by omega), List.getElem?_set_ne (by omega)]
    · by_cases hj2 : j < (m + 1) * 8
      · rw [List.getElem?_take_of_lt hj2, List.getElem?_append_right (by omega), hl]
        have h8 : j = m * 8 ∨ j = m * 8 + 1 ∨ j = m * 8 + 2 ∨ j = m * 8 + 3 ∨ j = m * 8 + 4 ∨ j = m * 8 + 5 ∨ j = m * 8 + 6 ∨ j = m * 8 + 7 := by omega
        rcases h8 with rfl | rfl | rfl | rfl | rfl | rfl | rfl | rfl
        all_goals
          simp [List.getElem?_set]
          try omega
      · rw [List.getElem?_eq_none (by simp; omega), List.getElem?_eq_none (by simp; omega)]
  · by_cases hlt2 : i < ts.length
    · rw [List.getElem?_append_left hlt2] at ht
      rw [List.getElem?_append_left (by omega)] at hv
      exact hk t' v' (h6 i t' v' ht hv)
    · rw [List.getElem?_append_right (by omega)] at ht
      rw [List.getElem?_append_right (by omega), h3] at hv
      have e0 : i - ts.length = 0 := by
        have := (List.getElem?_eq_some_iff.1 ht).1
        simp at this
        omega
      rw [hmm] at e0
      rw [hmm, e0] at ht
      rw [e0] at hv
      simp at ht hv
      subst ht hv
      exact hk t x hx
theorem Fil.node {w : World} {base G n : Nat} {ts : List Tn} (h : Fil w base G n ts) (hn : n = ts.length) (k mn mx : Int) : NwAt (fun b => base ≤ b) w (.mk k Oct.none ts mn mx) ⟨k, Oct.none, some ⟨G, 0, none⟩, n, n, mn, mx⟩ := by
  obtain ⟨h0, h00, cur, vs, hg, h2, h3, h4, h5, h6⟩ := h
  refine .mk k Oct.none ts mn mx _ n n vs hn (by omega) h00 (Or.inr ⟨G, 0, rfl, h0, fun j v hj => ?_⟩) (fun i t v ht hv => (h6 i t v ht hv).keep (fun b hb _ => hb.1) (fun _ _ _ => rfl))
  have hlt := (List.getElem?_eq_some_iff.1 hj).1
  rw [flatN_length] at hlt
  rw [← h5, List.getElem?_take_of_lt (by omega)] at hj
  simp only [World.cell?, hg, Nat.zero_add]
  simpa using hj
theorem wpList_make_nodes {w : World} {ops : Array Oper} {rest : List Oper} {o : Oper} {a : Act} {Q : Exit → Act → World → Prop} (hgd : o.guard = none) (l c : Operand)
    (ho : o.op = Op.makeSlice 24 l c) (base n : Nat) (hb : base ≤ w.heap.size) (hl : a.eval l = .int .i64 (n : Nat)) (hc : a.eval c = .int .i64 (n : Nat)) (hn : n ≤ 1000000)
    (h : ∀ w', Fil w' base w.heap.size n [] → Below w.heap.size w w' → wpList Tryz.prog ops Q rest (a.put o.dst (.slice (some ⟨w.heap.size, 0, none⟩) n n)) w') : wpList Tryz.prog ops Q (o :: rest) a w := by
  obtain ⟨i0, hi, hz0, hz1, hz2⟩ := info_parts infoN
  refine wpList_make_full (P := Tryz.prog) w hgd l c 24 ho base 30 i0 _ 8 Tryz.underlying24 hi hz0 hz1 .i64 .i64 (n : Nat) (n : Nat) n hl hc rfl rfl (by rw [hz2]; omega) (by simp only [maxLen]; omega) hb ?_
  intro w' h1 h2
  refine h w' ?_ ((Below.refl _ _).grown h2 (Nat.le_refl _) (fun k hk => by cases hk))
  rcases h1.2 with ⟨hv, hz⟩ | ⟨g, cap, cur, hv, hbg, hg, g1, g2, g3, g4⟩
  · cases hv
  · cases hv
    exact ⟨hb, hn, cur, [], hg, g3, rfl, Nat.zero_le _, by simp [flatN], fun i t v h => by simp at h⟩
end Go.Proofs.YtmjnobdlgbojoaaGreatDoor


namespace Go.Proofs.YtmjnobdlgbojoaaGreatDoor
open Go.RowKit
attribute [local go_sem ↓] Go.wp_at_zero Go.wp_at_succ
end Go.Proofs.YtmjnobdlgbojoaaGreatDoor


namespace Go.Proofs.YtmjnobdlgbojoaaGreatDoor
open Go.RowKit
attribute [local go_sem ↓] Go.wp_at_zero Go.wp_at_succ
def bt (l : List Bool) (j : Nat) : Prop := (l[j]?).getD false = true
def BAt (w : World) (g : Nat) (bs : List Bool) : Prop := ∀ (j : Nat) (b : Bool), bs[j]? = some b → w.cell? ⟨g, j, none⟩ = some (.bool b)
theorem BAt.later {w w' : World} {g : Nat} {bs : List Bool} (h : BAt w g bs) (hb : Below w.heap.size w w') : BAt w' g bs := fun j b hj => (World.cell?_of_block (w := w) (hb.block g (lt_of_cell (h j b hj)))).trans (h j b hj)
theorem BAt.same {w w' : World} {g : Nat} {bs : List Bool} (h : BAt w g bs) (hb : w'.heap[g]? = w.heap[g]?) : BAt w' g bs := fun j b hj => (World.cell?_of_block (w := w) hb).trans (h j b hj)
theorem RowB.bat {w : World} {base g n c : Nat} {bs : List Bool} (h : RowB w base (.slice (some ⟨g, 0, none⟩) n c) bs) : BAt w g bs := fun _ _ hj => (h.cell hj).1
theorem bt_set {l : List Bool} {i : Nat} (h : i < l.length) (j : Nat) : bt (l.set i true) j ↔ bt l j ∨ j = i := by
  unfold bt
  by_cases e : j = i
  · subst e
    rw [List.getElem?_set_self h]
    simp
  · rw [List.getElem?_set_ne (fun h => e h.symm)]
    simp [e]
theorem bt_lt {l : List Bool} {j : Nat} (h : bt l j) : j < l.length := by
  unfold bt at h
  by_cases hj : j < l.length
  · exact hj
  · rw [List.getElem?_eq_none (by omega)] at h; cases h
theorem bt_of {l : List Bool} {j : Nat} {b : Bool} (h : l[j]? = some b) : bt l j ↔ b = true := by unfold bt; rw [h]; rfl
theorem grown_rfl (w : World) (r : Option Nat) : w.grownBy w r := ⟨rfl, rfl, rfl, Nat.le_refl _, fun _ _ _ => rfl⟩
end Go.Proofs.YtmjnobdlgbojoaaGreatDoor
