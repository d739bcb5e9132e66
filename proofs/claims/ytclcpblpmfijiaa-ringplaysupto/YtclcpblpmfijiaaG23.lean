/- RingPlays: two pairs in an array. -/
import Derived.Test.YtclcpblpmfijiaaG18
import Derived.Test.YtclcpblpmfijiaaG22
namespace Go.Proofs.Ytclcpblpmfijiaa
open Go.RowKit Go.Maps Rg

/-- a pair stands at D -/
def PP (p : Nat) (T : Tg) (u : World) (D K : Nat) : Prop := ∃ B R Q N f VQ VL VW l LL, PAt p T u D B R Q N f VQ VL VW l l LL ∧ LL.length ≤ K
def pv (D : Nat → Nat) (b i : Nat) : Value := if i < b then .pointer (some ⟨D i, 0, none⟩) else .pointer none
structure S2 (w : World) (n m : Int) (X Y : Nat) (D : Nat → Nat) (a b K : Nat) (u : World) : Prop where
  lo : Below w.heap.size w u
  xx : u.heap[X]? = some (.cells #[pv D b 0, pv D b 1] 48 (0, 0))
  yy : u.heap[Y]? = some (.cells #[.int .i64 n, .int .i64 m] 3 (0, 0))
  xl : w.heap.size ≤ X
  pp : ∃ T : Tg, (∀ k, k < w.heap.size → (T k).1 = 3) ∧ (T X).1 = 2 ∧ (T Y).1 = 2 ∧ ∀ p, a ≤ p → p < b → PP p T u (D p) K
section
variable {w u u' : World} {n m : Int} {X Y a b K K' p : Nat} {D : Nat → Nat}
theorem PP.later {T : Tg} {d : Nat} (h : PP p T u d K) (hb : Below u.heap.size u u') : PP p T u' d K := by
  obtain ⟨B, R, Q, N, f, VQ, VL, VW, l, LL, h1, h2⟩ := h
  exact ⟨B, R, Q, N, f, VQ, VL, VW, l, LL, h1.later hb, h2⟩
theorem PP.other {q d : Nat} {T T' : Tg} (h : PP p T u d K) (hx : Ext q T T' u u') (hq : q ≠ p) (hK : K ≤ K') : PP p T' u' d K' := by
  obtain ⟨B, R, Q, N, f, VQ, VL, VW, l, LL, h1, h2⟩ := h
  exact ⟨B, R, Q, N, f, VQ, VL, VW, l, LL, h1.other hx hq, Nat.le_trans h2 hK⟩
theorem S2.later (h : S2 w n m X Y D a b K u) (hb : Below u.heap.size u u') : S2 w n m X Y D a b K u' := by
  obtain ⟨T, h1, h2, h3, h4⟩ := h.pp
  exact ⟨below_step h.lo hb, (hb.block X (Array.getElem?_eq_some_iff.1 h.xx).1).trans h.xx, (hb.block Y (Array.getElem?_eq_some_iff.1 h.yy).1).trans h.yy, h.xl, T, h1, h2, h3, fun p ha hp => (h4 p ha hp).later hb⟩
theorem below_ext {T T' : Tg} (h : Below w.heap.size w u) (hx : Ext p T T' u u') (hT : ∀ k, k < w.heap.size → (T k).1 ≠ p) : Below w.heap.size w u' :=
  ⟨hx.f.os.trans h.os, hx.f.tape.trans h.tape, hx.f.output.trans h.output, Nat.le_trans h.size hx.f.size, fun k hk => (hx.f.block k (Nat.lt_of_lt_of_le hk h.size) (hT k hk)).trans (h.block k hk)⟩
theorem S2.run (h : S2 w n m X Y D a b K u) (ha : a ≤ p) (hb : p < b) (hb2 : b ≤ 2) (hK : K ≤ K') {F : Nat} {args : Array Value} {r : Value} (hc : ∀ T, PP p T u (D p) K → Calls Try.prog F args u fun e w' => e = .returned r ∧ ∃ T', PP p T' w' (D p) K' ∧ Ext p T T' u w') :
    Calls Try.prog F args u fun e w' => e = .returned r ∧ S2 w n m X Y D a b K' w' := by
  obtain ⟨T, h1, h2, h3, h4⟩ := h.pp
  refine (hc T (h4 p ha hb)).mono ?_
  rintro e w' ⟨rfl, T', hp, hx⟩
  have hX := (Array.getElem?_eq_some_iff.1 h.xx).1
  have hY := (Array.getElem?_eq_some_iff.1 h.yy).1
  refine ⟨rfl, below_ext h.lo hx (fun k hk => by rw [h1 k hk]; omega), (hx.f.block X hX (by rw [h2]; omega)).trans h.xx, (hx.f.block Y hY (by rw [h3]; omega)).trans h.yy, h.xl, T', fun k hk => by rw [hx.t k (Nat.lt_of_lt_of_le hk h.lo.size)]; exact h1 k hk, by rw [hx.t X hX]; exact h2, by rw [hx.t Y hY]; exact h3, fun q hq hq2 => ?_⟩
  by_cases e : q = p
  · subst e; exact hp
  · exact (h4 q hq hq2).other hx (fun e2 => e e2.symm) hK
theorem S2.fin (h : S2 w n m X Y D a b K u) (hb : a < b) (hb2 : b ≤ 2) {F : Nat} {args : Array Value} {r : Value} (hc : ∀ T, PP a T u (D a) K → Calls Try.prog F args u fun e w' => e = .returned r ∧ Ext a T T u w') :
    Calls Try.prog F args u fun e w' => e = .returned r ∧ S2 w n m X Y D (a + 1) b K w' := by
  obtain ⟨T, h1, h2, h3, h4⟩ := h.pp
  refine (hc T (h4 a (Nat.le_refl _) hb)).mono ?_
  rintro e w' ⟨rfl, hx⟩
  have hX := (Array.getElem?_eq_some_iff.1 h.xx).1
  have hY := (Array.getElem?_eq_some_iff.1 h.yy).1
  exact ⟨rfl, below_ext h.lo hx (fun k hk => by rw [h1 k hk]; omega), (hx.f.block X hX (by rw [h2]; omega)).trans h.xx, (hx.f.block Y hY (by rw [h3]; omega)).trans h.yy, h.xl, T, h1, h2, h3, fun q hq hq2 => (h4 q (by omega) hq2).other hx (by omega) (Nat.le_refl _)⟩
/-- a call -/
theorem S2.plays (h : S2 w n m X Y D a b K u) (ha : a ≤ p) (hb : p < b) (hb2 : b ≤ 2) (hK : K ≤ 4000000) (kd : Int) (tw : Bool) (x : Int) :
    Calls Try.prog 20 #[.pointer (some ⟨D p, 0, none⟩), opV kd tw x] u fun e w' => e = .returned (.bool true) ∧ S2 w n m X Y D a b (K + 2) w' := by
  refine h.run ha hb hb2 (by omega) (fun T hp => ?_)
  obtain ⟨B, R, Q, N, f, VQ, VL, VW, l, LL, h1, h2⟩ := hp
  refine (plays_any h1 (by omega) kd tw x).mono ?_
  rintro e w' ⟨rfl, T', B', R', Q', N', f', VQ', VL', VW', l', LL', h3, h4, h5⟩
  exact ⟨rfl, T', ⟨_, _, _, _, _, _, _, _, _, _, h3, by omega⟩, h4⟩
theorem S2.pop (h : S2 w n m X Y D a b K u) (ha : a ≤ p) (hb : p < b) (hb2 : b ≤ 2) (tw : Bool) (x : Int) :
    Calls Try.prog 20 #[.pointer (some ⟨D p, 0, none⟩), opV 2 tw x] u fun e w' => e = .returned (.bool true) ∧ S2 w n m X Y D a b K w' := by
  refine h.run ha hb hb2 (Nat.le_refl _) (fun T hp => ?_)
  obtain ⟨B, R, Q, N, f, VQ, VL, VW, l, LL, h1, h2⟩ := hp
  refine (plays_pop h1 tw x).mono ?_
  rintro e w' ⟨rfl, T', B', R', Q', N', f', VQ', VL', VW', h3, h4⟩
  exact ⟨rfl, T', ⟨_, _, _, _, _, _, _, _, _, _, h3, h2⟩, h4⟩
theorem S2.asks (h : S2 w n m X Y D a b K u) (ha : a ≤ p) (hb : p < b) (hb2 : b ≤ 2) :
    Calls Try.prog 21 #[.pointer (some ⟨D p, 0, none⟩)] u fun e w' => e = .returned (.bool true) ∧ S2 w n m X Y D a b K w' := by
  refine h.run ha hb hb2 (Nat.le_refl _) (fun T hp => ?_)
  obtain ⟨B, R, Q, N, f, VQ, VL, VW, l, LL, h1, h2⟩ := hp
  refine (asks_any h1).mono ?_
  rintro e w' ⟨rfl, hb⟩
  exact ⟨rfl, T, ⟨_, _, _, _, _, _, _, _, _, _, h1.later hb, h2⟩, Ext.of_below p T hb⟩
theorem S2.all (h : S2 w n m X Y D a b K u) (ha : a ≤ p) (hb : p < b) (hb2 : b ≤ 2) (hK : K ≤ 4000000) :
    Calls Try.prog 22 #[.pointer (some ⟨D p, 0, none⟩)] u fun e w' => e = .returned (.bool true) ∧ S2 w n m X Y D a b (K + 2) w' := by
  refine h.run ha hb hb2 (by omega) (fun T hp => ?_)
  obtain ⟨B, R, Q, N, f, VQ, VL, VW, l, LL, h1, h2⟩ := hp
  refine (pall_any h1 (by omega)).mono ?_
  rintro e w' ⟨rfl, T', VL', VW', LL', h3, h4, h5⟩
  exact ⟨rfl, T', ⟨_, _, _, _, _, _, _, _, _, _, h3, by omega⟩, h4⟩
theorem S2.holds (h : S2 w n m X Y D a b K u) (hb : a < b) (hb2 : b ≤ 2) (hK : K ≤ 4000000) :
    Calls Try.prog 23 #[.pointer (some ⟨D a, 0, none⟩)] u fun e w' => e = .returned (.bool true) ∧ S2 w n m X Y D (a + 1) b K w' := by
  refine h.fin hb hb2 (fun T hp => ?_)
  obtain ⟨B, R, Q, N, f, VQ, VL, VW, l, LL, h1, h2⟩ := hp
  exact holds_any h1 (by omega)
/-- a pair more -/
theorem S2.add (h : S2 w n m X Y D 0 b 0 u) (hb2 : b < 2) (hbl : Below u.heap.size u u') {B R Q N : Nat} (hr : RgAt u' B R N 0 []) (hq : RefB u' Q N (.slice none 0 0)) (h1 : u.heap.size ≤ B) (h2 : u.heap.size ≤ R) (h3 : u.heap.size ≤ Q) {d : Nat} (hd : d = u'.heap.size) :
    S2 w n m X Y (fun i => if i = b then d else D i) 0 (b + 1) 0 ((u'.alloc (.cells #[.pointer (some ⟨B, 0, none⟩), .pointer (some ⟨Q, 0, none⟩), .slice none 0 0, .slice none 0 0] 54)).setCell ⟨X, b, none⟩ (.pointer (some ⟨d, 0, none⟩))) := by
  subst hd
  have h' := h.later hbl
  obtain ⟨v, hv⟩ : ∃ v, u'.alloc (.cells #[.pointer (some ⟨B, 0, none⟩), .pointer (some ⟨Q, 0, none⟩), .slice none 0 0, .slice none 0 0] 54) = v := ⟨_, rfl⟩
  have hkv : Below u'.heap.size u' v := by rw [← hv]; exact below_new u' _
  have hdv : v.heap[u'.heap.size]? = some (.cells #[.pointer (some ⟨B, 0, none⟩), .pointer (some ⟨Q, 0, none⟩), .slice none 0 0, .slice none 0 0] 54 (0, 0)) := by rw [← hv]; exact heap_alloc_new u' _
  have h'' := h'.later hkv
  have hX := (Array.getElem?_eq_some_iff.1 h.xx).1
  have hY := (Array.getElem?_eq_some_iff.1 h.yy).1
  have hXY : X ≠ Y := fun e => by
    have e1 := h.xx
    rw [e, h.yy] at e1
    have e2 := (Obj.cells.inj (Option.some.inj e1)).2.1
    exact absurd e2 (by decide)
  have hsz := hbl.size
  rw [hv]
  have hF : FrP (fun k => k = X) v (v.setCell ⟨X, b, none⟩ (.pointer (some ⟨u'.heap.size, 0, none⟩))) := (FrP.refl (fun k => k = X) v).set (a := X) (fun _ => rfl) b _
  have hst : ∀ k, k < v.heap.size → k ≠ X → (v.setCell ⟨X, b, none⟩ (.pointer (some ⟨u'.heap.size, 0, none⟩))).heap[k]? = v.heap[k]? := fun k hk hne => hF.block k hk hne
  have hxl := h.xl
  obtain ⟨T, t1, t2, t3, t4⟩ := h.pp
  have nRB := hr.ne
  have nQB : Q ≠ B := fun e => by
    have := hq.ty
    rw [e] at this
    exact absurd (TyB.ne this hr.b.ty) (by decide)
  have nQR : Q ≠ R := fun e => by
    have := hq.ty
    rw [e] at this
    exact absurd (TyB.ne this hr.r.ty) (by decide)
  have lB := hr.b.lt
  have lR := hr.r.lt
  have lQ := hq.lt
  obtain ⟨T', hT'⟩ : ∃ T' : Tg, T' = fun k => if k < u.heap.size then T k else if k = B then (b, 1) else if k = R then (b, 2) else if k = Q then (b, 3) else (b, 0) := ⟨_, rfl⟩
  have hT : ∀ k, k < u.heap.size → T' k = T k := fun k hk => by rw [hT']; exact if_pos hk
  have eB : T' B = (b, 1) := by rw [hT']; show (if B < u.heap.size then _ else _) = _; rw [if_neg (by omega), if_pos rfl]
  have eR : T' R = (b, 2) := by rw [hT']; show (if R < u.heap.size then _ else _) = _; rw [if_neg (by omega), if_neg nRB, if_pos rfl]
  have eQ : T' Q = (b, 3) := by rw [hT']; show (if Q < u.heap.size then _ else _) = _; rw [if_neg (by omega), if_neg nQB, if_neg nQR, if_pos rfl]
  have eD : T' u'.heap.size = (b, 0) := by rw [hT']; show (if u'.heap.size < u.heap.size then _ else _) = _; rw [if_neg (by omega), if_neg (by omega), if_neg (by omega), if_neg (by omega)]
  have hvs : v.heap.size = u'.heap.size + 1 := by rw [← hv]; exact Array.size_push ..
  refine ⟨⟨hF.os.trans h''.lo.os, hF.tape.trans h''.lo.tape, hF.output.trans h''.lo.output, Nat.le_trans h''.lo.size hF.size, fun k hk => (hst k (Nat.lt_of_lt_of_le hk h''.lo.size) (by omega)).trans (h''.lo.block k hk)⟩, ?_, (hst Y (by omega) (fun e => hXY e.symm)).trans h''.yy, h.xl, T', fun k hk => by rw [hT k (Nat.lt_of_lt_of_le hk h.lo.size)]; exact t1 k hk, by rw [hT X hX]; exact t2, by rw [hT Y hY]; exact t3, fun q _ hq2 => ?_⟩
  · rw [heap_set h''.xx]
    rcases (by omega : b = 0 ∨ b = 1) with e | e <;> subst e <;> simp [pv]
  · by_cases e : q = b
    · subst e
      have hlw : ∀ k, u.heap.size ≤ k → k < u'.heap.size → (v.setCell ⟨X, q, none⟩ (.pointer (some ⟨u'.heap.size, 0, none⟩))).heap[k]? = u'.heap[k]? := fun k a1 a2 => (hst k (by omega) (by omega)).trans (hkv.block k a2)
      refine ⟨B, R, Q, N, 0, .slice none 0 0, .slice none 0 0, .slice none 0 0, [], [], ?_, Nat.le_refl _⟩
      show PAt q T' _ (if q = q then u'.heap.size else D q) B R Q N 0 _ _ _ [] [] []
      rw [if_pos rfl]
      refine ⟨(hst _ (by omega) (by omega)).trans hdv, hr.same (hlw B h1 lB) (hlw R h2 lR), hq.same (hlw Q h3 lQ), lx_nil _ _, ⟨[], [], ⟨owns_nil _ _ _, fun b hb => by simp [Value.ownBlock] at hb⟩, ⟨owns_nil _ _ _, fun b hb => by simp [Value.ownBlock] at hb⟩, fun i xs hi => by simp at hi⟩, eD, eB, eR, eQ⟩
    · have hq3 := t4 q (Nat.zero_le _) (by omega)
      show PP q T' _ (if q = b then u'.heap.size else D q) 0
      rw [if_neg e]
      refine PP.other (q := 2) hq3 ⟨hT, ((FrP.of_below (fun k => (T k).1 = 2) hbl).below hkv).trans hF (fun k hk x => by have e2 : k = X := x; rw [e2]; exact t2)⟩ (by omega) (Nat.le_refl _)
end
end Go.Proofs.Ytclcpblpmfijiaa
