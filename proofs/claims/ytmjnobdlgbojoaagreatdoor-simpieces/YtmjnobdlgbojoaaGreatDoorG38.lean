
import Derived.Test.YtmjnobdlgbojoaaGreatDoorG30
import Derived.Test.YtmjnobdlgbojoaaGreatDoorG36
import Derived.Test.YtmjnobdlgbojoaaGreatDoorG37
import Derived.Test.YtmjnobdlgbojoaaGreatDoorG28
namespace Go.Proofs.YtmjnobdlgbojoaaGreatDoor
theorem line_ex {M : Ma} {S : Nat} (hM : Fits M S) (line : ByteArray) : ∃ R, LineOf M (bts line) R := by
  obtain ⟨g, hg⟩ := isCl_ex M.es (kmov true false) zeroS
  have hm : Mom M ((bts line).take 0) g (0 ||| rulesG M.rs g) := by rw [Nat.zero_or]; exact .beg g hg
  obtain ⟨R, _, h2⟩ := line_steps (line := line) hM line.size 0 (by omega) (Nat.zero_le _) (List.replicate S false) zeroS g 0 (onOf_zero hM.1) hg hm
  exact ⟨R, h2⟩
theorem wk_of {M : Ma} {line : ByteArray} {R : Nat} (hM : Fits M M.rs.length) (h : LineOf M (bts line) R) : Wk line M R := ⟨hM.2.1, hM.1, fits_inR hM, line_walks hM h⟩
theorem LineOf.lt {M : Ma} {l : List Nat} {R S : Nat} (hM : Fits M S) (h : LineOf M l R) : R < 4294967296 := by
  obtain ⟨g, r, hm, h2, _, e⟩ := h
  rw [e]
  exact or_lt32 (hm.r32 hM) (rulesG_lt hM.2.2.2.2)
structure Pm (r : Nat) (t : Tn) (M : Ma) : Prop where
  p : (plc t).2 = true
  q : ¬ 2048 < placesOf t
  s : sc t ≤ 100000000
  rl : r ≤ 31
  m : M = mach t r
theorem Pm.right {r : Nat} {t : Tn} {M : Ma} (h : Pm r t M) : rightOf M = true := by rw [h.m]; exact mach_right h.p r
theorem Pm.words {r : Nat} {t : Tn} {M : Ma} (h : Pm r t M) : ∀ x ∈ M.rs, x < 4294967296 := by rw [h.m]; exact mach_words t h.rl
theorem Pm.fits {r : Nat} {t : Tn} {M : Ma} (h : Pm r t M) : Fits M M.rs.length := fits_of h.right h.words
theorem Pm.size {r : Nat} {t : Tn} {M : Ma} (h : Pm r t M) : M.es.length ≤ 4096 ∧ M.rs.length ≤ 4096 := by
  have hb := mach_bounds t (r : Nat)
  have hr := h.rl
  unfold buildOf at hb
  rw [if_neg (by rw [h.p]; decide), if_neg h.q, if_neg (by omega)] at hb
  rw [h.m]
  exact hb
theorem Pm.built {r : Nat} {t : Tn} {M : Ma} (h : Pm r t M) : buildOf t (r : Nat) = (M, 0) := by
  have hr := h.rl
  unfold buildOf
  rw [if_neg (by rw [h.p]; decide), if_neg h.q, if_neg (by omega), h.m]
  rfl
theorem Pm.meets {r : Nat} {t : Tn} {M : Ma} (h : Pm r t M) {line : ByteArray} {R : Nat} (hR : LineOf M (bts line) R) : (R = 2 ^ r ∧ ∃ i j, j ≤ line.size ∧ Tk line t i j) ∨ (R = 0 ∧ ∀ i j, j ≤ line.size → ¬ Tk line t i j) := by
  have hw := line_walks h.fits hR
  rw [h.m] at hw
  have e : (mach t r).rs.length = (lay t ⟨1, []⟩ 0).1.S := by simp [mach]
  rw [e] at hw
  exact mach_meets h.p r hw
structure Gath (ts : List Tn) (Ms : List Ma) : Prop where
  l : ts.length = Ms.length
  n : Ms.length ≤ 4
  pm : ∀ (k : Nat) (t : Tn) (M : Ma), ts[k]? = some t → Ms[k]? = some M → Pm (7 * k) t M
def uni (Ms : List Ma) : Ma := unions Ms ⟨1, [], [0]⟩
theorem Gath.mem {ts : List Tn} {Ms : List Ma} (h : Gath ts Ms) {M : Ma} (hM : M ∈ Ms) : ∃ k t, Pm (7 * k) t M := by
  obtain ⟨k, hk, e⟩ := List.getElem_of_mem hM
  have h1 : Ms[k]? = some M := by rw [List.getElem?_eq_getElem hk, e]
  have h2 : ts[k]? = some (ts[k]'(by rw [h.l]; exact hk)) := List.getElem?_eq_getElem _
  exact ⟨k, _, h.pm k _ M h2 h1⟩
theorem Gath.right {ts : List Tn} {Ms : List Ma} (h : Gath ts Ms) : rightOf (uni Ms) = true := right_unions Ms _ right_one (fun M hM => by obtain ⟨k, t, hp⟩ := h.mem hM; exact hp.right)
theorem Gath.words {ts : List Tn} {Ms : List Ma} (h : Gath ts Ms) : ∀ x ∈ (uni Ms).rs, x < 4294967296 := unions_words Ms _ (by decide) (fun M hM => by obtain ⟨k, t, hp⟩ := h.mem hM; exact hp.words)
theorem Gath.fits {ts : List Tn} {Ms : List Ma} (h : Gath ts Ms) : Fits (uni Ms) (uni Ms).rs.length := fits_of h.right h.words
theorem Gath.size {ts : List Tn} {Ms : List Ma} (h : Gath ts Ms) : (uni Ms).es.length ≤ 20000 ∧ (uni Ms).rs.length ≤ 20000 := by
  have h1 := unions_es Ms ⟨1, [], [0]⟩ 4096 (fun M hM => by obtain ⟨k, t, hp⟩ := h.mem hM; exact hp.size.1)
  have h2 := unions_rs Ms ⟨1, [], [0]⟩
  have h3 := sumR_le Ms 4096 (fun M hM => by obtain ⟨k, t, hp⟩ := h.mem hM; exact hp.size.2)
  have h4 := h.n
  have h5 : Ms.length * (4096 + 1) ≤ 4 * (4096 + 1) := Nat.mul_le_mul_right _ h4
  have h6 : Ms.length * 4096 ≤ 4 * 4096 := Nat.mul_le_mul_right _ h4
  unfold uni
  simp only [List.length_nil, List.length_cons] at h1 h2
  omega
theorem Gath.built {ts : List Tn} {Ms : List Ma} (h : Gath ts Ms) : unionOf Ms = (uni Ms, 0) := by
  unfold unionOf
  rw [if_pos (by rw [List.all_eq_true]; intro M hM; obtain ⟨k, t, hp⟩ := h.mem hM; exact hp.right)]
  rfl
theorem list_ex {P : Nat → Nat → Prop} : ∀ (n : Nat), (∀ k, k < n → ∃ v, P k v) → ∃ vs : List Nat, vs.length = n ∧ ∀ k v, vs[k]? = some v → P k v
  | 0, _ => ⟨[], rfl, fun k v h => by simp at h⟩
  | n + 1, h => by
    obtain ⟨vs, h1, h2⟩ := list_ex n (fun k hk => h k (by omega))
    obtain ⟨v, hv⟩ := h n (by omega)
    refine ⟨vs ++ [v], by simp [h1], fun k x hx => ?_⟩
    by_cases hk : k < n
    · rw [List.getElem?_append_left (by omega)] at hx
      exact h2 k x hx
    · have hl := (List.getElem?_eq_some_iff.1 hx).1
      simp [h1] at hl
      have e : k = n := by omega
      subst e
      rw [List.getElem?_append_right (by omega), h1, Nat.sub_self] at hx
      simp at hx
      subst hx
      exact hv
theorem Gath.line {ts : List Tn} {Ms : List Ma} (h : Gath ts Ms) (line : ByteArray) : ∃ Rs : List Nat, Rs.length = Ms.length ∧ (∀ (k : Nat) (M : Ma) (R : Nat), Ms[k]? = some M → Rs[k]? = some R → LineOf M (bts line) R) ∧ LineOf (uni Ms) (bts line) (Rs.foldl (· ||| ·) 0) := by
  obtain ⟨Rs, h1, h2⟩ := list_ex (P := fun k v => ∀ M, Ms[k]? = some M → LineOf M (bts line) v) Ms.length (fun k hk => by
    have hm : Ms[k]? = some Ms[k] := List.getElem?_eq_getElem hk
    obtain ⟨j, t, hp⟩ := h.mem (List.mem_of_getElem? hm)
    obtain ⟨R, hR⟩ := line_ex hp.fits line
    exact ⟨R, fun M hM => by rw [hm] at hM; cases hM; exact hR⟩)
  refine ⟨Rs, h1, fun k M R hM hR => h2 k R hR M hM, ?_⟩
  have w1 : Wk line (uni Ms) (Rs.foldl (· ||| ·) 0) := Wk.unions Ms Rs _ 0 h1.symm (fun i M R hM hR => by
    obtain ⟨j, t, hp⟩ := h.mem (List.mem_of_getElem? hM)
    exact wk_of hp.fits (h2 i R hR M hM)) (wk_one line)
  obtain ⟨v, hv⟩ := line_ex h.fits line
  have w2 := wk_of h.fits hv
  have e : v = Rs.foldl (· ||| ·) 0 := w2.w.unique w1.w
  rw [← e]
  exact hv
theorem bts_extract (s : ByteArray) (n : Nat) : bts (s.extract 0 n) = (bts s).take n := by
  unfold bts
  rw [← List.map_take]
  congr 1
  simp [ByteArray.extract, ByteArray.copySlice]
end Go.Proofs.YtmjnobdlgbojoaaGreatDoor


namespace Go.Proofs.YtmjnobdlgbojoaaGreatDoor
open Go.RowKit
mutual
def nl : Tr → Nat
  | .mk _ _ subs _ _ => nls subs + (if subs.length = 0 then 0 else 1)
def nls : List Tr → Nat
  | [] => 0
  | t :: ts => nl t + nls ts
end
theorem nls_append (a b : List Tr) : nls (a ++ b) = nls a + nls b := by
  induction a with
  | nil => simp [nls]
  | cons t a ih => rw [List.cons_append, nls, nls, ih]; omega
theorem nl_leaf (k : Nat) (s : Oct.S) (mn mx : Int) : nl (.mk k s [] mn mx) = 0 := by rw [nl, nls]; rfl
theorem nl_together (k : Nat) (ts : List Tr) : nl (together k ts) ≤ nls ts + (if 2 ≤ ts.length then 1 else 0) := by
  match ts with
  | [] => rw [together, empty, nl_leaf]; omega
  | [t] => rw [together, nls, nls]; omega
  | t1 :: t2 :: r =>
    show nl (.mk k Oct.none (t1 :: t2 :: r) 0 0) ≤ _
    rw [nl]
    simp
theorem nl_repeated {s : ByteArray} {t u : Tr} {i j : Nat} (h : repeated s t i = .ok u j) : nl u ≤ nl t + 2 * (j - i) := by
  have ht : ∀ l m, nl (times t l m) = nl t + 1 := fun l m => by rw [times, nl, nls, nls]; rfl
  unfold repeated at h
  split at h
  · cases h; rw [ht]; omega
  · split at h
    · cases h; rw [ht]; omega
    · split at h
      · cases h; rw [ht]; omega
      · split at h
        · split at h
          · rename_i hc
            cases h
            have := counts_ge hc
            rw [ht]; omega
          · cases h
          · cases h
        · cases h; omega
theorem nl_read (s : ByteArray) (n : Nat) : (∀ d i t j, pat s n d i = .ok t j → nl t ≤ 2 * (j - i) + 1) ∧ (∀ d acc i t j, acc ≠ [] → patLoop s n d acc i = .ok t j → nl t ≤ nls acc + 2 * (j - i) + (if 2 ≤ acc.length then 1 else 0)) ∧ (∀ d i t j, alt s n d i = .ok t j → nl t ≤ 2 * (j - i) + 1) ∧ (∀ d acc i t j, altLoop s n d acc i = .ok t j → nl t ≤ nls acc + 2 * (j - i) + 1) ∧ (∀ d i t j, piece s n d i = .ok t j → nl t ≤ 2 * (j - i)) ∧ (∀ d i t j, atom s n d i = .ok t j → nl t ≤ 2 * (j - i)) ∧ (∀ d i t j, group s n d i = .ok t j → nl t ≤ 2 * (j - i)) := by
  induction n with
  | zero =>
    refine ⟨?_, ?_, ?_, ?_, ?_, ?_, ?_⟩
    · intro d i t j h; simp [pat] at h
    · intro d acc i t j _ h; simp [patLoop] at h
    · intro d i t j h; simp [alt] at h
    · intro d acc i t j h; simp [altLoop] at h
    · intro d i t j h; simp [piece] at h
    · intro d i t j h; simp [atom] at h
    · intro d i t j h; simp [group] at h
  | succ n ih =>
    obtain ⟨h1, h2, h3, h4, h5, h6, h7⟩ := ih
    have hge := read_ge s n
    refine ⟨?_, ?_, ?_, ?_, ?_, ?_, ?_⟩
    · intro d i t j h
      rw [pat] at h
      split at h
      · rename_i t0 j0 ha
        have e1 := h3 _ _ _ _ ha
        have e2 := h2 _ _ _ _ _ (by simp) h
        have g1 := hge.2.2.1 _ _ _ _ ha
        have g2 := hge.2.1 _ _ _ _ _ h
        rw [nls, nls, if_neg (by simp)] at e2
        omega
      · cases h
      · cases h
    · intro d acc i t j hne h
      rw [patLoop] at h
      split at h
      · split at h
        · rename_i t0 j0 ha
          have e1 := h3 _ _ _ _ ha
          have e2 := h2 _ _ _ _ _ (by simp) h
          have g1 := hge.2.2.1 _ _ _ _ ha
          have g2 := hge.2.1 _ _ _ _ _ h
          rw [nls_append, nls, nls, List.length_append] at e2
          have : 1 ≤ acc.length := List.length_pos_iff.2 hne
          rw [if_pos (by simp; omega)] at e2
          split <;> omega
        · cases h
        · cases h
      · cases h
        have := nl_together 4 acc
        omega
    · intro d i t j h
      rw [alt] at h
      have := h4 _ _ _ _ _ h
      rw [nls] at this
      omega
    · intro d acc i t j h
      rw [altLoop] at h
      split at h
      · split at h
        · rename_i t0 j0 ha
          have e1 := h5 _ _ _ _ ha
          have e2 := h4 _ _ _ _ _ h
          have g1 := hge.2.2.2.2.1 _ _ _ _ ha
          have g2 := hge.2.2.2.1 _ _ _ _ _ h
          rw [nls_append, nls, nls] at e2
          omega
        · cases h
        · cases h
      · cases h
        have := nl_together 3 acc
        split at this <;> omega
    · intro d i t j h
      rw [piece] at h
      split at h
      · cases h; rw [nl_leaf]; omega
      · split at h
        · cases h; rw [nl_leaf]; omega
        · split at h
          · rename_i t0 j0 ha
            have e1 := h6 _ _ _ _ ha
            have e2 := nl_repeated h
            have g1 := hge.2.2.2.2.2.1 _ _ _ _ ha
            have g2 := repeated_ge h
            omega
          · cases h
          · cases h
    · intro d i t j h
      rw [atom] at h
      split at h
      · cases h
      · split at h
        · exact h7 _ _ _ _ h
        · split at h
          · split at h
            · cases h; rw [setT, nl_leaf]; omega
            · cases h
            · cases h
          · split at h
            · cases h; rw [setT, nl_leaf]; omega
            · split at h
              · split at h
                · cases h
                · cases h; rw [setT, nl_leaf]; omega
              · cases h; rw [setT, nl_leaf]; omega
    · intro d i t j h
      rw [group] at h
      split at h
      · cases h
      · split at h
        · rename_i t0 j0 ha
          split at h
          · cases h
          · cases h
            have e1 := h1 _ _ _ _ ha
            have g1 := hge.1 _ _ _ _ ha
            omega
        · cases h
        · cases h
theorem nl_parse {s : ByteArray} {t : Tr} {j : Nat} (h : parseOf s = .ok t j) : nl t ≤ 3000 := by
  obtain ⟨hs, _, hp, _⟩ := parse_ok h
  have := (nl_read s _).1 _ _ _ _ hp
  omega
theorem scs_few : ∀ (ts : List Tr), (∀ t ∈ ts, sc (up t) ≤ 1 + 11275 * nl t) → sc.scs (ts.map up) ≤ 11 * ts.length + 11275 * nls ts
  | [], _ => by rw [List.map_nil, sc.scs]; omega
  | t :: ts, h => by
    have h1 := h t (by simp)
    have h2 := scs_few ts (fun u hu => h u (by simp [hu]))
    rw [List.map_cons, sc.scs, nls, List.length_cons]
    omega
theorem sc_few : ∀ (z : Nat) (t : Tr), SizeOf.sizeOf t ≤ z → Good 1025 t → sc (up t) ≤ 1 + 11275 * nl t
  | 0, .mk k s subs mn mx, hz, _ => by simp at hz
  | z + 1, .mk k s subs mn mx, hz, hg => by
    obtain ⟨g1, g2⟩ := hg.subs (by decide)
    have ih := scs_few subs (fun t ht => sc_few z t (by
      have := List.sizeOf_lt_of_mem ht
      simp at hz
      omega) (g2 t ht))
    rw [up_mk, sc, nl]
    split
    · rename_i h0
      rw [h0] at ih
      omega
    · omega
theorem parse_small {s : ByteArray} {t : Tr} {j : Nat} (h : parseOf s = .ok t j) : sc (up t) ≤ 100000000 := by
  have h1 := nl_parse h
  have h2 := sc_few _ t (Nat.le_refl _) (parse_ok h).2.2.2.2.1
  omega
theorem parse_pm {s : ByteArray} {t : Tr} {j : Nat} (h : parseOf s = .ok t j) (r : Nat) (hr : r ≤ 31) : Pm r (up t) (mach (up t) r) := by
  obtain ⟨_, _, _, h4, h5, _⟩ := parse_ok h
  exact ⟨good_plc h5, by omega, parse_small h, hr, rfl⟩
end Go.Proofs.YtmjnobdlgbojoaaGreatDoor
