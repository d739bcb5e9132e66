
import Derived.Test.YtmjnobdlgbojoaaGreatDoorG14
namespace Go.Proofs.YtmjnobdlgbojoaaGreatDoor
open Go.RowKit
inductive Good : Nat → Tr → Prop
  | leaf (N k : Nat) (hk : k = 1 ∨ k = 6 ∨ k = 7) : Good N (.mk k Oct.none [] 0 0)
  | set (N : Nat) (s : Oct.S) (h : s 10 = false) : Good N (.mk 2 s [] 0 0)
  | many (N k : Nat) (hk : k = 3 ∨ k = 4) (subs : List Tr) (h2 : 2 ≤ subs.length) (hN : subs.length ≤ N) (hs : ∀ t ∈ subs, Good N t) : Good N (.mk k Oct.none subs 0 0)
  | times (N : Nat) (t : Tr) (l m : Int) (hc : counted l m = true) (ht : Good N t) : Good N (.mk 5 Oct.none [t] l m)
theorem Good.mono {N M : Nat} {t : Tr} (h : Good N t) : N ≤ M → Good M t := by
  induction h with
  | leaf k hk => intro _; exact .leaf M k hk
  | set s h => intro _; exact .set M s h
  | many k hk subs h2 hN hs ih => intro hle; exact .many M k hk subs h2 (by omega) (fun t ht => ih t ht hle)
  | times t l m hc ht ih => intro hle; exact .times M t l m hc (ih hle)
theorem good_together {N k : Nat} (hk : k = 3 ∨ k = 4) {ts : List Tr} (hs : ∀ t ∈ ts, Good N t) (hl : ts.length ≤ N) : Good N (together k ts) := by
  match ts, hs, hl with
  | [], _, _ => exact .leaf N 1 (by simp)
  | [t], hs, _ => exact hs t (by simp)
  | t :: u :: r, hs, hl => exact .many N k hk _ (by simp) hl hs
theorem good_repeated {s : ByteArray} {N : Nat} {t u : Tr} {i j : Nat} (ht : Good N t) (h : repeated s t i = .ok u j) : Good N u := by
  have hce : ∀ {o k j : Nat} {l m : Int} {x : Int × Int}, countsEnd s o l m k = .ok x j → counted x.1 x.2 = true := fun {o k j l m x} hh => by
    unfold countsEnd at hh
    split at hh
    · rename_i h1
      simp at h1
      cases hh
      exact h1.2
    · cases hh
  have hc : ∀ {x : Int × Int} {j : Nat}, counts s i = .ok x j → counted x.1 x.2 = true := fun {x j} hh => by
    unfold counts at hh
    split at hh
    · split at hh
      · split at hh
        · exact hce hh
        · split at hh
          · exact hce hh
          · cases hh
          · cases hh
      · exact hce hh
    · cases hh
    · cases hh
  unfold repeated at h
  split at h
  · cases h; exact .times N t _ _ (by decide) ht
  · split at h
    · cases h; exact .times N t _ _ (by decide) ht
    · split at h
      · cases h; exact .times N t _ _ (by decide) ht
      · split at h
        · split at h
          · rename_i l m k hcs
            cases h
            exact .times N t l m (hc hcs) ht
          · cases h
          · cases h
        · cases h; exact ht
theorem inv_ten (b : Oct.S) : Oct.inv b 10 = false := by simp [Oct.inv]
theorem ordinary_ten : ordinary 10 = false := inv_ten _
theorem setOf_ten {s : ByteArray} {f i j : Nat} {x : Oct.S} (h : setOf s f i = .ok x j) : x 10 = false := by
  unfold setOf at h
  split at h
  · split at h
    · cases h
      split
      · exact inv_ten _
      · simp [Oct.meet, ordinary_ten]
    · cases h
    · cases h
  · cases h
  · cases h
theorem has_ten {b : Nat} (h : b ≠ 10) : Oct.has [b] 10 = false := by
  unfold Oct.has
  simp
  omega
theorem read_good (s : ByteArray) (hnl : ∀ i, byt s i ≠ 10) (n : Nat) : (∀ d i t j, pat s n d i = .ok t j → Good (j + 1) t) ∧ (∀ d acc i t j, patLoop s n d acc i = .ok t j → (∀ t ∈ acc, Good (i + 1) t) → acc.length ≤ i + 1 → Good (j + 1) t) ∧ (∀ d i t j, alt s n d i = .ok t j → Good (j + 1) t) ∧ (∀ d acc i t j, altLoop s n d acc i = .ok t j → (∀ t ∈ acc, Good (i + 1) t) → acc.length ≤ i → Good (j + 1) t) ∧ (∀ d i t j, piece s n d i = .ok t j → Good (j + 1) t) ∧ (∀ d i t j, atom s n d i = .ok t j → Good (j + 1) t) ∧ (∀ d i t j, group s n d i = .ok t j → Good (j + 1) t) := by
  induction n with
  | zero => refine ⟨?_, ?_, ?_, ?_, ?_, ?_, ?_⟩ <;> intros <;> rename_i h <;> simp_all [pat, patLoop, alt, altLoop, piece, atom, group]
  | succ n ih =>
    obtain ⟨i1, i2, i3, i4, i5, i6, i7⟩ := ih
    have hge := read_ge s n
    refine ⟨fun d i t j h => ?_, fun d acc i t j h ha hl => ?_, fun d i t j h => ?_, fun d acc i t j h ha hl => ?_, fun d i t j h => ?_, fun d i t j h => ?_, fun d i t j h => ?_⟩
    · rw [pat] at h
      split at h
      · rename_i t1 k hc
        refine i2 _ _ _ _ _ h (fun t ht => ?_) (by simp)
        simp at ht
        subst ht
        exact i3 _ _ _ _ hc
      · cases h
      · cases h
    · rw [patLoop] at h
      split at h
      · split at h
        · rename_i t1 k hc
          have hk := hge.2.2.1 _ _ _ _ hc
          refine i2 _ _ _ _ _ h (fun t ht => ?_) (by simp; omega)
          rcases List.mem_append.1 ht with ht | ht
          · exact (ha t ht).mono (by omega)
          · simp at ht
            subst ht
            exact i3 _ _ _ _ hc
        · cases h
        · cases h
      · cases h
        exact good_together (.inr rfl) ha hl
    · rw [alt] at h
      exact i4 _ _ _ _ _ h (fun t ht => by simp at ht) (by simp)
    · rw [altLoop] at h
      split at h
      · split at h
        · rename_i t1 k hc
          have hk := hge.2.2.2.2.1 _ _ _ _ hc
          refine i4 _ _ _ _ _ h (fun t ht => ?_) (by simp; omega)
          rcases List.mem_append.1 ht with ht | ht
          · exact (ha t ht).mono (by omega)
          · simp at ht
            subst ht
            exact i5 _ _ _ _ hc
        · cases h
        · cases h
      · cases h
        exact good_together (.inl rfl) ha (by omega)
    · rw [piece] at h
      split at h
      · cases h; exact .leaf _ 6 (by simp)
      · split at h
        · cases h; exact .leaf _ 7 (by simp)
        · split at h
          · rename_i t1 k hc
            have hk := repeated_ge h
            exact good_repeated ((i6 _ _ _ _ hc).mono (by omega)) h
          · cases h
          · cases h
    · rw [atom] at h
      split at h
      · cases h
      · split at h
        · exact i7 _ _ _ _ h
        · split at h
          · split at h
            · rename_i a k hc
              cases h
              exact .set _ _ (setOf_ten hc)
            · cases h
            · cases h
          · split at h
            · cases h; exact .set _ _ ordinary_ten
            · split at h
              · split at h
                · cases h
                · cases h; exact .set _ _ (has_ten (hnl _))
              · cases h; exact .set _ _ (has_ten (hnl _))
    · rw [group] at h
      split at h
      · cases h
      · split at h
        · rename_i t1 k hc
          split at h
          · cases h
          · cases h
            exact (i1 _ _ _ _ hc).mono (by omega)
        · cases h
        · cases h
def up : Tr → Tn
  | .mk k s subs mn mx => .mk k s (ups subs) mn mx
  where ups : List Tr → List Tn
  | [] => []
  | t :: ts => up t :: ups ts
theorem ups_map (l : List Tr) : up.ups l = l.map up := by
  induction l with
  | nil => rfl
  | cons t l ih => rw [up.ups, ih]; rfl
theorem up_mk (k : Nat) (s : Oct.S) (subs : List Tr) (mn mx : Int) : up (.mk k s subs mn mx) = .mk k s (subs.map up) mn mx := by rw [up, ups_map]
theorem Good.subs {N k : Nat} {s : Oct.S} {subs : List Tr} {mn mx : Int} (h : Good N (.mk k s subs mn mx)) (h1 : 1 ≤ N) : subs.length ≤ N ∧ ∀ t ∈ subs, Good N t := by
  cases h with
  | leaf => exact ⟨by simp, by simp⟩
  | set => exact ⟨by simp, by simp⟩
  | many k hk subs h2 hN hs => exact ⟨hN, hs⟩
  | times t l m hc ht => exact ⟨by simpa using h1, fun u hu => by simp at hu; rw [hu]; exact ht⟩
theorem NodeAt.inAt {X : Nat → Prop} {w : World} {t : Tr} {x : Nd} (h : NodeAt X w t x) {N : Nat} (hN : N ≤ 1000000) (h1 : 1 ≤ N) : Good N t → InAt w (up t) x := by
  induction h with
  | mk k s subs mn mx a n c vs hn hl hr hs ih =>
    intro hg
    obtain ⟨g1, g2⟩ := hg.subs h1
    rw [up_mk]
    refine .mk k s (subs.map up) mn mx a n c vs (by simp [hn]) hl (by omega) (hr.keep (fun _ _ _ => trivial) (fun _ _ _ => rfl)) (fun i t v ht hv => ?_)
    rw [List.getElem?_map] at ht
    cases hsi : subs[i]? with
    | none => rw [hsi] at ht; cases ht
    | some u =>
      rw [hsi] at ht
      cases ht
      exact ih i u v hsi hv (g2 u (List.mem_of_getElem? hsi))
end Go.Proofs.YtmjnobdlgbojoaaGreatDoor
