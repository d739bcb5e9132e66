/- The rows that the iterator tells are the document's. -/
import Derived.Test.YtkgpmaclaahmbaaIter
import Derived.Test.YtkgpmaclaahmbaaRefSpans
namespace Go.Proofs.Ytkgpmaclaahmbaa

def vals (x : Row) : Nat × Nat := (x.1.val, x.2.val)
theorem begins_opn (s : Oct.S) (k : Nat) (h : s k = true) : begins s k = !(opn s k) := by
  cases k with
  | zero => simp [begins, opn, h]
  | succ k => simp [begins, opn_succ, h]
theorem frm_st (s : Oct.S) (k : Nat) (hk : k ≤ 256) (h : opn s k = true) : (frm s k).val = st s k := by
  induction k with
  | zero => simp [opn] at h
  | succ k ih =>
    rw [opn_succ] at h
    rw [st_succ]
    simp only [frm]
    rw [begins_opn s k h]
    cases ho : opn s k with
    | true => simp; exact ih (by omega) ho
    | false => simp [fb]; omega
theorem rows_closed (s : Oct.S) (k : Nat) (hk : k ≤ 255) : (rows s k).map vals = closed s (k + 1) := by
  induction k with
  | zero => simp [rows, closed, opn]
  | succ k ih =>
    rw [closed_succ, ← ih (by omega), opn_succ]
    simp only [rows, List.map_append]
    have hne : (k == 255) = false := by simp; omega
    cases hs : s k with
    | false => simp [ends, hs]
    | true =>
      cases hs2 : s (k + 1) with
      | true => simp [ends, hs, hs2, hne]
      | false =>
        have hf := frm_st s (k + 1) (by omega) hs
        simp [ends, hs, hs2, vals, hf, fb]
        omega
theorem rows_succ (s : Oct.S) (k : Nat) : rows s (k + 1) = rows s k ++ (if ends s k then [(frm s (k + 1), fb k)] else []) := rfl
theorem rows_last (s : Oct.S) (k : Nat) (hk : k = 255) : (rows s (k + 1)).map vals = refRows s (k + 1) := by
  have h := rows_closed s k (by omega)
  rw [rows_succ, List.map_append, h]
  unfold refRows
  rw [opn_succ]
  have he : ends s k = s k := by simp [ends, hk]
  rw [he]
  cases hs : s k with
  | false => simp
  | true =>
    have hf := frm_st s (k + 1) (by omega) hs
    simp [vals, hf, fb]
    omega
theorem rows_ref (s : Oct.S) : (rows s 256).map vals = refRows s 256 := rows_last s 255 rfl
theorem rows_prefix (s : Oct.S) (k j : Nat) (h : k ≤ j) : rows s k <+: rows s j := by
  induction j with
  | zero => obtain rfl : k = 0 := by omega
            exact List.prefix_refl _
  | succ j ih =>
    by_cases e : k = j + 1
    · subst e; exact List.prefix_refl _
    · exact (ih (by omega)).trans (List.prefix_append _ _)
theorem rows_vals (s : Oct.S) (k : Nat) (h : k ≤ 256) : (rows s k).map vals <+: refRows s 256 := by
  rw [← rows_ref]
  exact (rows_prefix s k 256 h).map _
end Go.Proofs.Ytkgpmaclaahmbaa
