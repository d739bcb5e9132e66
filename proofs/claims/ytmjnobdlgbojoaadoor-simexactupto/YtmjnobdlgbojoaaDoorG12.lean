/- Plain: a machine turned about meets the same. -/
import Derived.Test.YtmjnobdlgbojoaaDoorG10
import Derived.Test.YtmjnobdlgbojoaaDoorG11
namespace Go.Proofs.YtmjnobdlgbojoaaDoor

def mi (S i : Nat) : Nat := if i = 0 then 0 else S - i
theorem mi_lt {S i : Nat} (h : i < S) : mi S i < S := by unfold mi; split <;> omega
theorem mi_mi {S i : Nat} (h : i < S) : mi S (mi S i) = i := by unfold mi; split <;> split <;> omega
theorem mi_inj {S i j : Nat} (hi : i < S) (hj : j < S) (h : mi S i = mi S j) : i = j := by rw [← mi_mi hi, h, mi_mi hj]
theorem mi_zero {S i : Nat} (h : i < S) : mi S i = 0 ↔ i = 0 := by unfold mi; split <;> omega
/-- an edge, a set of states turned about -/
def turnE (S : Nat) (y : Eg) : Eg := ⟨y.k, (mi S y.f.toNat : Nat), (mi S y.t.toNat : Nat), y.s⟩
def tr (S : Nat) (f : Oct.S) : Oct.S := fun s => decide (s < S) && f (mi S s)
theorem tr_mi {S : Nat} {f : Oct.S} {s : Nat} (h : s < S) : tr S f (mi S s) = f s := by unfold tr; rw [mi_mi h]; simp [mi_lt h]
/-- A MACHINE TURNED ABOUT. -/
structure Turned (S : Nat) (M T : Ma) : Prop where
  s : T.S = M.S
  e : ∀ z, z ∈ T.es ↔ ∃ y ∈ M.es, z = turnE S y
  n : T.rs.length = S
  r : ∀ i, i < S → T.rs[mi S i]? = M.rs[i]?
section
variable {S : Nat} {M T : Ma} {p : Eg → Bool} {f g : Oct.S}
theorem rch_turn (_hM : Fits M S) (hT : Turned S M T) (hp : ∀ y, p (turnE S y) = p y) (hf : ∀ s, f s = true → s < S) {s : Nat} (h : Rch M.es p f s) : Rch T.es p (tr S f) (mi S s) := by
  induction h with
  | base s h => exact .base _ (by rw [tr_mi (hf s h)]; exact h)
  | step y hy hpy _ ih =>
    have h1 : turnE S y ∈ T.es := (hT.e _).2 ⟨y, hy, rfl⟩
    have h2 := Rch.step (p := p) (f := tr S f) (turnE S y) h1 (by rw [hp]; exact hpy) (by simpa [turnE] using ih)
    simpa [turnE] using h2
theorem rch_back (hM : Fits M S) (hT : Turned S M T) (hp : ∀ y, p (turnE S y) = p y) {s : Nat} (h : Rch T.es p (tr S f) s) : s < S ∧ Rch M.es p f (mi S s) := by
  induction h with
  | base s h =>
    unfold tr at h
    simp only [Bool.and_eq_true, decide_eq_true_eq] at h
    exact ⟨h.1, .base _ h.2⟩
  | step z hz hpz _ ih =>
    obtain ⟨y, hy, rfl⟩ := (hT.e z).1 hz
    have hb := hM.2.2.2.1 y hy
    have hft : y.f.toNat < S := by omega
    have htt : y.t.toNat < S := by omega
    have ih2 := ih.2
    simp only [turnE, Int.toNat_natCast] at ih2 ⊢
    rw [mi_mi hft] at ih2
    refine ⟨mi_lt htt, ?_⟩
    rw [mi_mi htt]
    exact .step y hy (by rw [← hp]; exact hpz) ih2
theorem isCl_turn (hM : Fits M S) (hT : Turned S M T) (hp : ∀ y, p (turnE S y) = p y) (hf : ∀ s, f s = true → s < S) (h : IsCl M.es p f g) : IsCl T.es p (tr S f) (tr S g) := by
  intro s
  constructor
  · intro hs
    unfold tr at hs
    simp only [Bool.and_eq_true, decide_eq_true_eq] at hs
    have h1 := rch_turn hM hT hp hf ((h _).1 hs.2)
    rwa [mi_mi hs.1] at h1
  · intro hs
    obtain ⟨h1, h2⟩ := rch_back hM hT hp hs
    unfold tr
    simp [h1, (h _).2 h2]
theorem kmov_turn (b e : Bool) (y : Eg) : kmov b e (turnE S y) = kmov b e y := rfl
theorem tr_zero (hS : 1 ≤ S) : tr S zeroS = zeroS := by
  funext s
  rw [Bool.eq_iff_iff]
  unfold tr zeroS
  simp only [Bool.and_eq_true, decide_eq_true_eq]
  constructor
  · rintro ⟨h1, h2⟩; exact (mi_zero h1).1 h2
  · intro h; subst h; exact ⟨by omega, by simp [mi]⟩
theorem tr_next (hM : Fits M S) (hT : Turned S M T) (b : Nat) (g : Oct.S) : tr S (nextS M.es b g) = nextS T.es b (tr S g) := by
  funext s
  rw [Bool.eq_iff_iff]
  have h1 := hM.1
  unfold tr nextS
  simp only [Bool.and_eq_true, Bool.or_eq_true, decide_eq_true_eq, List.any_eq_true]
  constructor
  · rintro ⟨hs, h | ⟨y, hy, ⟨⟨a1, a2⟩, a3⟩, a4⟩⟩
    · exact Or.inl ((mi_zero hs).1 h)
    · have hb := hM.2.2.2.1 y hy
      have hft : y.f.toNat < S := by omega
      refine Or.inr ⟨turnE S y, (hT.e _).2 ⟨y, hy, rfl⟩, ⟨⟨a1, ?_⟩, a3⟩, ?_⟩
      · simp only [turnE, Int.toNat_natCast]; exact ⟨mi_lt hft, by rw [mi_mi hft]; exact a2⟩
      · simp only [turnE, Int.toNat_natCast]; rw [a4, mi_mi hs]
  · rintro (h | ⟨z, hz, ⟨⟨a1, a2⟩, a3⟩, a4⟩)
    · subst h; exact ⟨by omega, Or.inl (by simp [mi])⟩
    · obtain ⟨y, hy, rfl⟩ := (hT.e z).1 hz
      have hb := hM.2.2.2.1 y hy
      have hft : y.f.toNat < S := by omega
      have htt : y.t.toNat < S := by omega
      simp only [turnE, Int.toNat_natCast] at a1 a2 a3 a4
      subst a4
      exact ⟨mi_lt htt, Or.inr ⟨y, hy, ⟨⟨a1, by rw [mi_mi hft] at a2; exact a2.2⟩, a3⟩, by rw [mi_mi htt]⟩⟩
theorem rules_turn (hM : Fits M S) (hT : Turned S M T) (g : Oct.S) : rulesG T.rs (tr S g) = rulesG M.rs g := by
  apply Nat.eq_of_testBit_eq
  intro k
  rw [Bool.eq_iff_iff, rulesG_bit, rulesG_bit, hT.n, hM.2.2.1]
  constructor
  · rintro ⟨s, h1, h2, h3⟩
    have e := hT.r (mi S s) (mi_lt h1)
    rw [mi_mi h1] at e
    rw [e] at h3
    unfold tr at h2
    simp only [Bool.and_eq_true, decide_eq_true_eq] at h2
    exact ⟨mi S s, mi_lt h1, h2.2, h3⟩
  · rintro ⟨s, h1, h2, h3⟩
    refine ⟨mi S s, mi_lt h1, by rw [tr_mi h1]; exact h2, ?_⟩
    rw [hT.r s h1]
    exact h3
theorem mom_turn (hM : Fits M S) (hT : Turned S M T) {l : List Nat} {r : Nat} (h : Mom M l g r) : Mom T l (tr S g) r := by
  induction h with
  | beg g h =>
    have h2 := isCl_turn hM hT (kmov_turn true false) (fun s hs => by simp [zeroS] at hs; have := hM.1; omega) h
    rw [tr_zero hM.1] at h2
    have h3 := Mom.beg (M := T) _ h2
    rw [rules_turn hM hT] at h3
    exact h3
  | byte l g r b g2 hm hc ih =>
    have hlt := hm.lt hM
    have h2 := isCl_turn hM hT (kmov_turn false false) (fun s hs => by
      simp only [nextS, Bool.or_eq_true, decide_eq_true_eq, List.any_eq_true, Bool.and_eq_true] at hs
      have h1 := hM.1
      rcases hs with hs | ⟨y, hy, _, hs⟩
      · omega
      · have := hM.2.2.2.1 y hy; omega) hc
    rw [tr_next hM hT] at h2
    have h3 := Mom.byte l _ _ b _ ih h2
    rw [rules_turn hM hT] at h3
    exact h3
theorem end_turn (hM : Fits M S) (hT : Turned S M T) {b : Bool} {r x : Nat} (hg : ∀ s, g s = true → s < S) (h : EndOf M b g r x) : EndOf T b (tr S g) r x := by
  obtain ⟨h', h1, h2⟩ := h
  exact ⟨tr S h', isCl_turn hM hT (kmov_turn b true) hg h1, by rw [rules_turn hM hT]; exact h2⟩
theorem fits_turn (hM : Fits M S) (hT : Turned S M T) : Fits T S := by
  refine ⟨hM.1, hT.s.trans hM.2.1, hT.n, fun z hz => ?_, fun x hx => ?_⟩
  · obtain ⟨y, hy, rfl⟩ := (hT.e z).1 hz
    have hb := hM.2.2.2.1 y hy
    have h1 := mi_lt (S := S) (i := y.f.toNat) (by omega)
    have h2 := mi_lt (S := S) (i := y.t.toNat) (by omega)
    simp only [turnE]
    omega
  · obtain ⟨i, hi⟩ := List.getElem?_of_mem hx
    have hil : i < S := by rw [← hT.n]; exact (List.getElem?_eq_some_iff.1 hi).1
    have e := hT.r (mi S i) (mi_lt hil)
    rw [mi_mi hil, hi] at e
    exact hM.2.2.2.2 x (List.mem_of_getElem? e.symm)
end
theorem sorted_ext : ∀ {l m : List Nat}, l.Pairwise (· < ·) → m.Pairwise (· < ·) → (∀ x, x ∈ l ↔ x ∈ m) → l = m
  | [], [], _, _, _ => rfl
  | [], b :: m, _, _, h => absurd ((h b).2 (by simp)) (by simp)
  | a :: l, [], _, _, h => absurd ((h a).1 (by simp)) (by simp)
  | a :: l, b :: m, h1, h2, h => by
    obtain ⟨p1, p2⟩ := List.pairwise_cons.1 h1
    obtain ⟨q1, q2⟩ := List.pairwise_cons.1 h2
    have e : a = b := by
      have ha := (h a).1 (by simp)
      have hb := (h b).2 (by simp)
      rcases List.mem_cons.1 ha with e | ha
      · exact e
      · rcases List.mem_cons.1 hb with e | hb
        · exact e.symm
        · have := q1 a ha; have := p1 b hb; omega
    subst e
    congr 1
    refine sorted_ext p2 q2 (fun x => ?_)
    constructor
    · intro hx
      rcases List.mem_cons.1 ((h x).1 (by simp [hx])) with e | hx'
      · have := p1 x hx; omega
      · exact hx'
    · intro hx
      rcases List.mem_cons.1 ((h x).2 (by simp [hx])) with e | hx'
      · have := q1 x hx; omega
      · exact hx'
theorem els_turn {S : Nat} {g : Oct.S} {t : List Nat} (hS : 1 ≤ S) (h : Oct.els g S = 0 :: t) : Oct.els (tr S g) S = 0 :: (t.map (mi S)).reverse := by
  have hsort := Oct.els_sorted g S
  rw [h] at hsort
  obtain ⟨p1, p2⟩ := List.pairwise_cons.1 hsort
  have hmem : ∀ x, x ∈ (0 :: t) ↔ x < S ∧ g x = true := fun x => by rw [← h]; exact Oct.mem_els
  have hlt : ∀ x ∈ t, x < S := fun x hx => ((hmem x).1 (by simp [hx])).1
  refine sorted_ext (Oct.els_sorted _ _) ?_ (fun x => ?_)
  · refine List.pairwise_cons.2 ⟨fun x hx => ?_, ?_⟩
    · simp only [List.mem_reverse, List.mem_map] at hx
      obtain ⟨y, hy, rfl⟩ := hx
      have h1 := p1 y hy
      have h2 := hlt y hy
      unfold mi
      split <;> omega
    · rw [List.pairwise_reverse, List.pairwise_map]
      refine List.Pairwise.imp_of_mem (fun {a b} ha hb hab => ?_) p2
      have h1 := p1 a ha
      have h2 := hlt b hb
      unfold mi
      split <;> split <;> omega
  · rw [Oct.mem_els]
    simp only [List.mem_cons, List.mem_reverse, List.mem_map]
    constructor
    · rintro ⟨h1, h2⟩
      unfold tr at h2
      simp only [Bool.and_eq_true, decide_eq_true_eq] at h2
      rcases List.mem_cons.1 ((hmem (mi S x)).2 ⟨mi_lt h1, h2.2⟩) with e | e
      · exact Or.inl ((mi_zero h1).1 e)
      · exact Or.inr ⟨mi S x, e, mi_mi h1⟩
    · rintro (rfl | ⟨y, hy, rfl⟩)
      · refine ⟨by omega, ?_⟩
        unfold tr
        have := ((hmem 0).1 (by simp)).2
        have e : mi S 0 = 0 := by simp [mi]
        rw [e]
        simp [this]; omega
      · have h1 := hlt y hy
        refine ⟨mi_lt h1, ?_⟩
        rw [tr_mi h1]
        exact ((hmem y).1 (by simp [hy])).2
theorem els_zero {g : Oct.S} {S : Nat} (hS : 1 ≤ S) (h : g 0 = true) : ∃ t, Oct.els g S = 0 :: t := by
  have h1 : (0 : Nat) ∈ Oct.els g S := Oct.mem_els.2 ⟨by omega, h⟩
  have h2 := Oct.els_sorted g S
  cases hl : Oct.els g S with
  | nil => rw [hl] at h1; cases h1
  | cons a t =>
    rw [hl] at h1 h2
    rcases List.mem_cons.1 h1 with e | e
    · exact ⟨t, by rw [e]⟩
    · have := (List.pairwise_cons.1 h2).1 0 e
      omega
end Go.Proofs.YtmjnobdlgbojoaaDoor

/- SimStates' own pieces: mirror; the rules turned about; the edges turned about. -/
namespace Go.Proofs.YtmjnobdlgbojoaaDoor
open Go.RowKit
attribute [local go_sem ↓] Go.wp_at_zero Go.wp_at_succ

theorem mirror_any (S i : Nat) (w : World) (hi : i ≤ S) (hS : S ≤ 400) : Calls Tryd.prog 7 #[.int .i64 (i : Nat), .int .i64 (S : Nat)] w fun e w' => e = .returned (.int .i64 (mi S i : Nat)) ∧ w' = w := by
  by_cases h0 : i = 0
  · subst h0
    have e : mi S 0 = 0 := by simp [mi]
    rw [e]
    go_enter Tryd.func7, Tryd.ntmps7
    go_wp2
    go_ret
    exact ⟨rfl, rfl⟩
  · have HE : Hid (((mi S i : Nat) : Int) = (S : Int) - (i : Int)) := by show _ = _; unfold mi; rw [if_neg h0]; omega
    have h1 : ((i : Int) == 0) = false := by simp [h0]
    have h2 : ¬ (i : Int) = 0 := by omega
    go_enter Tryd.func7, Tryd.ntmps7
    go_wp2
    go_ret
    exact ⟨ret_int HE.out.symm, rfl⟩
/-- the rules behind k rounds -/
def trs (S : Nat) (rs : List Nat) : Nat → List Nat
  | 0 => List.replicate S 0
  | k + 1 => (trs S rs k).set (mi S k) ((rs[k]?).getD 0)
theorem trs_len (S : Nat) (rs : List Nat) (k : Nat) : (trs S rs k).length = S := by
  induction k with
  | zero => simp [trs]
  | succ k ih => simp [trs, ih]
theorem trs_at {S : Nat} {rs : List Nat} (hl : rs.length = S) {k : Nat} (hk : k ≤ S) : ∀ i, i < k → (trs S rs k)[mi S i]? = rs[i]? := by
  induction k with
  | zero => intro i hi; omega
  | succ k ih =>
    intro i hi
    rw [trs, List.getElem?_set]
    by_cases e : i = k
    · subst e
      rw [if_pos rfl, if_pos (by rw [trs_len]; exact mi_lt (by omega)), List.getElem?_eq_getElem (by omega)]
      rfl
    · rw [if_neg (fun h => e (mi_inj (by omega) (by omega) h.symm))]
      exact ih (by omega) i (by omega)
/-- the edges behind k rounds -/
def ted (S : Nat) (es : List Eg) (k : Nat) : List Eg := (List.range k).map fun i => turnE S ((es[i % es.length]?).getD eg97)
theorem ted_len (S : Nat) (es : List Eg) (k : Nat) : (ted S es k).length = k := by simp [ted]
theorem ted_succ (S : Nat) (es : List Eg) (k : Nat) : ted S es (k + 1) = ted S es k ++ [turnE S ((es[k % es.length]?).getD eg97)] := by unfold ted; rw [List.range_succ, List.map_append]; rfl
theorem ted_mem {S : Nat} {es : List Eg} {z : Eg} : z ∈ ted S es (2 * es.length) ↔ ∃ y ∈ es, z = turnE S y := by
  unfold ted
  simp only [List.mem_map, List.mem_range]
  constructor
  · rintro ⟨i, hi, rfl⟩
    have h0 : 0 < es.length := by omega
    have hm := Nat.mod_lt i h0
    refine ⟨es[i % es.length], List.getElem_mem hm, ?_⟩
    rw [List.getElem?_eq_getElem hm]
    rfl
  · rintro ⟨y, hy, rfl⟩
    obtain ⟨i, hi⟩ := List.getElem?_of_mem hy
    have hil := (List.getElem?_eq_some_iff.1 hi).1
    refine ⟨i, by omega, ?_⟩
    rw [Nat.mod_eq_of_lt hil, hi]
    rfl
theorem turned_of {M : Ma} {S : Nat} (hM : Fits M S) : Turned S M ⟨M.S, ted S M.es (2 * M.es.length), trs S M.rs S⟩ :=
  ⟨rfl, fun _ => ted_mem, trs_len _ _ _, fun i hi => trs_at hM.2.2.1 (Nat.le_refl _) i hi⟩
end Go.Proofs.YtmjnobdlgbojoaaDoor
