
import Derived.Test.YtmjnobdlgbojoaaGreatDoorG10
namespace Go.Proofs.YtmjnobdlgbojoaaGreatDoor
open Go.RowKit
theorem all_ok : ∀ n, PatOK n ∧ AltOK n ∧ PieceOK n ∧ AtomOK n ∧ GroupOK n := by
  intro n
  induction n using Nat.strongRecOn with
  | ind n ih => exact ⟨pat_walk n (fun m h => (ih m h).2.1), alt_walk n (fun m h => (ih m h).2.2.1), piece_walk n (fun m h => (ih m h).2.2.2.1), atom_walk n (fun m h => (ih m h).2.2.2.2), group_walk n (fun m h => (ih m h).1)⟩
theorem count_out {s : ByteArray} {o i : Nat} : count s o i ≠ .out := by unfold count; split <;> simp
theorem countsEnd_out {s : ByteArray} {o j : Nat} {l m : Int} : countsEnd s o l m j ≠ .out := by unfold countsEnd; split <;> simp
theorem counts_out {s : ByteArray} {i : Nat} : counts s i ≠ .out := by
  unfold counts
  split
  · split
    · split
      · exact countsEnd_out
      · split
        · exact countsEnd_out
        · simp
        · rename_i h; exact absurd h count_out
    · exact countsEnd_out
  · simp
  · rename_i h; exact absurd h count_out
theorem repeated_out {s : ByteArray} {t : Tr} {i : Nat} : repeated s t i ≠ .out := by
  unfold repeated
  split
  · simp
  · split
    · simp
    · split
      · simp
      · split
        · split
          · simp
          · simp
          · rename_i h; exact absurd h counts_out
        · simp
theorem item_out {s : ByteArray} {o i : Nat} : item s o i ≠ .out := by
  unfold item
  split
  · simp
  · split
    · unfold class_
      split
      · split <;> simp
      · simp
    · split
      · simp
      · split
        · unfold span_
          split <;> simp
        · simp
theorem setLoop_out {s : ByteArray} {o : Nat} : ∀ {f : Nat} {a : Oct.S} {i : Nat}, i ≤ s.size → s.size - i < f → setLoop s o f a i ≠ .out := by
  intro f
  induction f with
  | zero => intro a i _ h; omega
  | succ f ih =>
    intro a i hi hf
    rw [setLoop]
    split
    · simp
    · split
      · rename_i b j hc
        have h1 := item_le hi hc
        exact ih h1.1 (by omega)
      · simp
      · rename_i h; exact absurd h item_out
theorem setOf_out {s : ByteArray} {f i : Nat} (hi : i < s.size) (hf : s.size - i < f) : setOf s f i ≠ .out := by
  unfold setOf
  split
  · rename_i a j hc
    have h2 : (if sees s (i + 1) 94 = true then i + 2 else i + 1) ≤ s.size := by
      split
      · rename_i h; unfold sees at h; simp at h; omega
      · omega
    have h1 := item_le h2 hc
    have h3 : i < j := by
      have := h1.2
      split at this <;> omega
    split
    · simp
    · simp
    · rename_i h; exact absurd h (setLoop_out h1.1 (by omega))
  · simp
  · rename_i h; exact absurd h item_out
theorem sees_lt {s : ByteArray} {i b : Nat} (h : sees s i b = true) : i < s.size := by unfold sees at h; simp at h; exact h.1
theorem enough (s : ByteArray) (n : Nat) : (∀ d i, 8 * (s.size - i) + 8 ≤ n → pat s n d i ≠ .out) ∧ (∀ d acc i, 8 * (s.size - i) + 6 ≤ n → patLoop s n d acc i ≠ .out) ∧ (∀ d i, 8 * (s.size - i) + 5 ≤ n → alt s n d i ≠ .out) ∧ (∀ d acc i, 8 * (s.size - i) + 4 ≤ n → altLoop s n d acc i ≠ .out) ∧ (∀ d i, i < s.size → 8 * (s.size - i) + 3 ≤ n → piece s n d i ≠ .out) ∧ (∀ d i, i < s.size → 8 * (s.size - i) + 2 ≤ n → atom s n d i ≠ .out) ∧ (∀ d i, i < s.size → 8 * (s.size - i) + 1 ≤ n → group s n d i ≠ .out) := by
  induction n with
  | zero => refine ⟨?_, ?_, ?_, ?_, ?_, ?_, ?_⟩ <;> intros <;> omega
  | succ n ih =>
    obtain ⟨i1, i2, i3, i4, i5, i6, i7⟩ := ih
    have hge := read_ge s n
    refine ⟨fun d i hn => ?_, fun d acc i hn => ?_, fun d i hn => ?_, fun d acc i hn => ?_, fun d i hi hn => ?_, fun d i hi hn => ?_, fun d i hi hn => ?_⟩
    · rw [pat]
      split
      · rename_i t j hc
        have := hge.2.2.1 _ _ _ _ hc
        exact i2 _ _ _ (by omega)
      · simp
      · rename_i h; exact absurd h (i3 _ _ (by omega))
    · rw [patLoop]
      split
      · rename_i hs
        have hlt := sees_lt hs
        split
        · rename_i t j hc
          have := hge.2.2.1 _ _ _ _ hc
          exact i2 _ _ _ (by omega)
        · simp
        · rename_i h; exact absurd h (i3 _ _ (by omega))
      · simp
    · rw [alt]
      exact i4 _ _ _ (by omega)
    · rw [altLoop]
      split
      · rename_i hs
        have hlt : i < s.size := by simp at hs; exact hs.1.1
        split
        · rename_i t j hc
          have := hge.2.2.2.2.1 _ _ _ _ hc
          exact i4 _ _ _ (by omega)
        · simp
        · rename_i h; exact absurd h (i5 _ _ hlt (by omega))
      · simp
    · rw [piece]
      split
      · simp
      · split
        · simp
        · split
          · exact repeated_out
          · simp
          · rename_i h; exact absurd h (i6 _ _ hi (by omega))
    · rw [atom]
      split
      · simp
      · split
        · exact i7 _ _ hi (by omega)
        · split
          · split
            · simp
            · simp
            · rename_i h; exact absurd h (setOf_out hi (by omega))
          · split
            · simp
            · split
              · split <;> simp
              · simp
    · rw [group]
      split
      · simp
      · split
        · split <;> simp
        · simp
        · rename_i h; exact absurd h (i1 _ _ (by omega))
def patOf (s : ByteArray) : Rs Tr := pat s (8 * s.size + 8) 0 0
theorem patOf_out (s : ByteArray) : patOf s ≠ .out := (enough s _).1 0 0 (by omega)
theorem pattern_any (B : Nat) (s : ByteArray) (w : World) (h : Pre w B s 0 0) : Calls Tryz.prog 62 #[.pointer (some ⟨B, 0, none⟩)] w (Reads w B s 0 (patOf s) (TreeV w.heap.size)) := (all_ok _).1 B 0 0 s w h (patOf_out s)
end Go.Proofs.YtmjnobdlgbojoaaGreatDoor
