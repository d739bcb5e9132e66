/- Plain: a crash, inode by inode. -/
import Derived.Test.YtpikepifhnkmkaaG14
namespace Sf
def crSt (keep : List Int) (d : Dk) (i : Nat) : Nat × Dk := ((keysUp d).take i).foldl (crStep keep) (0, d)
section
variable {keep : List Int} {d : Dk} {K : Nat}
theorem crSt_zero : crSt keep d 0 = (0, d) := rfl
theorem crSt_succ {i n : Nat} (h : (keysUp d)[i]? = some n) : crSt keep d (i + 1) = crStep keep (crSt keep d i) n := by
  unfold crSt
  obtain ⟨hl, e⟩ := List.getElem?_eq_some_iff.1 h
  rw [List.take_succ_eq_append_getElem hl, List.foldl_append, e]
  rfl
theorem crSt_all : crash d keep = (crSt keep d (keysUp d).length).2 := by unfold crSt crash; rw [List.take_length]
theorem crStep_lab (s : Nat × Dk) (n : Nat) : (crStep keep s n).2.lab = s.2.lab ∧ (crStep keep s n).2.hi = s.2.hi ∧ (crStep keep s n).1 ≤ s.1 + 1 ∧ ∀ m, m ≠ n → (crStep keep s n).2.ino m = s.2.ino m := by
  unfold crStep
  split
  · exact ⟨rfl, rfl, by omega, fun _ _ => rfl⟩
  · split
    · exact ⟨rfl, rfl, by omega, fun _ _ => rfl⟩
    · exact ⟨rfl, rfl, Nat.le_refl _, fun m hm => by simp [putI, hm]⟩
theorem keysUp_lt (d : Dk) : (keysUp d).Pairwise (· < ·) := List.Pairwise.filter _ List.pairwise_lt_range
theorem not_take {i n : Nat} (h : (keysUp d)[i]? = some n) : n ∉ (keysUp d).take i := by
  intro hm
  obtain ⟨j, hj⟩ := List.getElem?_of_mem hm
  by_cases hji : j < i
  · rw [List.getElem?_take_of_lt hji] at hj
    obtain ⟨l1, e1⟩ := List.getElem?_eq_some_iff.1 hj
    obtain ⟨l2, e2⟩ := List.getElem?_eq_some_iff.1 h
    have := List.pairwise_iff_getElem.1 (keysUp_lt d) j i l1 l2 hji
    omega
  · rw [List.getElem?_take_eq_none (by omega)] at hj
    cases hj
theorem take_more {i n m : Nat} (h : (keysUp d)[i]? = some n) (hm : m ∉ (keysUp d).take (i + 1)) : m ∉ (keysUp d).take i ∧ m ≠ n := by
  obtain ⟨hl, e⟩ := List.getElem?_eq_some_iff.1 h
  rw [List.take_succ_eq_append_getElem hl, e] at hm
  simp at hm
  exact hm
/-- what holds behind i of them -/
theorem crSt_is : ∀ i, i ≤ (keysUp d).length → (crSt keep d i).2.lab = d.lab ∧ (crSt keep d i).2.hi = d.hi ∧ (crSt keep d i).1 ≤ i ∧ ∀ m, m ∉ (keysUp d).take i → (crSt keep d i).2.ino m = d.ino m
  | 0, _ => ⟨rfl, rfl, Nat.le_refl _, fun _ _ => rfl⟩
  | i + 1, hi => by
    obtain ⟨n, hn⟩ : ∃ n, (keysUp d)[i]? = some n := ⟨_, List.getElem?_eq_getElem (by omega)⟩
    obtain ⟨a, b, c, e⟩ := crSt_is i (by omega)
    obtain ⟨a', b', c', e'⟩ := crStep_lab (keep := keep) (crSt keep d i) n
    rw [crSt_succ hn]
    refine ⟨a'.trans a, b'.trans b, by omega, fun m hm => ?_⟩
    obtain ⟨h1, h2⟩ := take_more hn hm
    rw [e' m h2, e m h1]
theorem Wf.putJ (h : Wf d K) {n : Nat} {f f' : Ino} (hf : d.ino n = some f) (hn : f'.nm = f.nm) (h1 : f'.ls ≤ f'.bs.length) (h2 : f'.bs.length ≤ 1048576) (h3 : f'.gen ≤ K) : Wf (Sf.putI d n (some f')) K := by
  refine ⟨h.hi, fun m g hg => ?_, fun s q m hq => ?_⟩
  · by_cases e : m = n
    · subst e
      simp [Sf.putI] at hg
      subst hg
      have := h.ino m f hf
      exact ⟨this.1, this.2.1, by rw [hn]; exact this.2.2.1, by rw [hn]; exact this.2.2.2.1, h1, h2, h3⟩
    · have hg : d.ino m = some g := by simpa [Sf.putI, e] using hg
      exact h.ino m g hg
  · have := h.lab s q m hq
    refine ⟨this.1, this.2.1, fun hm => ?_⟩
    obtain ⟨g, hg, hs⟩ := this.2.2 hm
    by_cases e : m = n
    · subst e
      rw [hf] at hg
      cases hg
      exact ⟨f', by simp [Sf.putI], hn.trans hs⟩
    · exact ⟨g, by simpa [Sf.putI, e] using hg, hs⟩
theorem crSt_wf (h : Wf d K) : ∀ i, i ≤ (keysUp d).length → Wf (crSt keep d i).2 (K + 1)
  | 0, _ => h.up (by omega)
  | i + 1, hi => by
    obtain ⟨n, hn⟩ : ∃ n, (keysUp d)[i]? = some n := ⟨_, List.getElem?_eq_getElem (by omega)⟩
    have ih := crSt_wf h i (by omega)
    obtain ⟨_, _, _, e⟩ := crSt_is (keep := keep) (d := d) i (by omega)
    have en := e n (not_take hn)
    rw [crSt_succ hn]
    unfold crStep
    split
    · exact ih
    · rename_i f hf
      split
      · exact ih
      · have hd := h.ino n f (by rw [← en]; exact hf)
        obtain ⟨a, b, c, e⟩ := Ino.crash_ok hd.2.2.2.2.1 hd.2.2.2.2.2.1 (keep.getD (crSt keep d i).1 0)
        exact ih.putJ hf a b c (by omega)
theorem Wf.crash (h : Wf d K) : Wf (Sf.crash d keep) (K + 1) := by rw [crSt_all]; exact crSt_wf h _ (Nat.le_refl _)
end
end Sf
