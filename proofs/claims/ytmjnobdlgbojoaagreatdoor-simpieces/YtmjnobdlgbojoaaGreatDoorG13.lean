
import Derived.Test.YtmjnobdlgbojoaaGreatDoorG12
namespace Go.Proofs.YtmjnobdlgbojoaaGreatDoor
open Go.RowKit
attribute [local go_sem ↓] Go.wp_at_zero Go.wp_at_succ
def repT (o l : Nat) (m : Int) : Int := if o = 0 then 0 else if m = -1 then (l : Int) * o + o + 2 else if (l : Int) < m then m * o + 1 else (l : Int) * o
theorem mul_le_of {o : Nat} (ho : o ≤ 2048) {m : Int} (h0 : 0 ≤ m) (h1 : m ≤ 255) : 0 ≤ m * (o : Int) ∧ m * (o : Int) ≤ 522240 := by
  refine ⟨Int.mul_nonneg h0 (by omega), ?_⟩
  have h2 : m * (o : Int) ≤ 255 * (o : Int) := Int.mul_le_mul_of_nonneg_right h1 (by omega)
  omega
theorem repT_le {o l : Nat} {m : Int} (ho : o ≤ 2048) (hl : l ≤ 255) (hm : -1 ≤ m) (hm2 : m ≤ 255) : 0 ≤ repT o l m ∧ repT o l m ≤ 600000 := by
  have p1 := mul_le_of ho (m := (l : Int)) (by omega) (by omega)
  unfold repT
  split
  · omega
  · split
    · omega
    · have p2 := mul_le_of ho (m := m) (by omega) hm2
      split <;> omega
theorem repeats_any (o l : Nat) (m : Int) (w : World) (ho : o ≤ 2048) (hl : l ≤ 255) (hm : -1 ≤ m) (hm2 : m ≤ 255) : Calls Tryz.prog 66 #[.int .i64 (o : Nat), .int .i64 (l : Nat), .int .i64 m] w fun e w' => e = .returned (.int .i64 (repT o l m)) ∧ w' = w := by
  have p1 := mul_le_of ho (m := (l : Int)) (by omega) (by omega)
  by_cases h0 : o = 0
  · have HX : Hid (repT o l m = 0) := by show _ = _; simp [repT, h0]
    have g1 : ((o : Int) == 0) = true := by simp; omega
    go_enter Tryz.func66, Tryz.ntmps66
    go_wp2
    go_ret
    exact ⟨ret_int HX.out.symm, rfl⟩
  · have g1 : ((o : Int) == 0) = false := by simp; omega
    by_cases h1 : m = -1
    · have HX : Hid (repT o l m = (l : Int) * o + o + 2) := by show _ = _; simp [repT, h0, h1]
      have g2 : (m == -1) = true := by simp; omega
      go_enter Tryz.func66, Tryz.ntmps66
      go_wp2
      go_ret
      exact ⟨ret_int HX.out.symm, rfl⟩
    · have g2 : (m == -1) = false := by simp; omega
      have p2 := mul_le_of ho (m := m) (by omega) hm2
      by_cases h2 : (l : Int) < m
      · have HX : Hid (repT o l m = m * o + 1) := by show _ = _; simp [repT, h0, h1, h2]
        go_enter Tryz.func66, Tryz.ntmps66
        go_wp2
        go_ret
        exact ⟨ret_int HX.out.symm, rfl⟩
      · have HX : Hid (repT o l m = (l : Int) * o) := by show _ = _; simp [repT, h0, h1, h2]
        go_enter Tryz.func66, Tryz.ntmps66
        go_wp2
        go_ret
        exact ⟨ret_int HX.out.symm, rfl⟩
inductive Tn where
  | mk (k : Int) (s : Oct.S) (subs : List Tn) (mn mx : Int)
def ends (k : Int) (n len : Nat) (mn mx : Int) : Nat := if k = 2 ∨ k = 6 ∨ k = 7 then 1 else if k = 4 then n + len + 1 else if k = 5 then (repT n mn.toNat mx).toNat else n
mutual
def plc : Tn → Nat × Bool
  | .mk k s subs mn mx => if shapedT k s subs.length mn mx then match plcs subs 0 with
    | some n => (min (ends k n subs.length mn mx) 2048, true)
    | none => (0, false)
    else (0, false)
def plcs : List Tn → Nat → Option Nat
  | [], n => some n
  | t :: ts, n => if (plc t).2 then plcs ts (min (n + (plc t).1) 2048) else none
end
theorem plc_le (t : Tn) : (plc t).1 ≤ 2048 := by
  cases t with
  | mk k s subs mn mx =>
    rw [plc]
    split
    · split
      · exact Nat.min_le_right _ _
      · exact Nat.zero_le _
    · exact Nat.zero_le _
theorem plcs_step {ts : List Tn} {i : Nat} {t : Tn} (h : ts[i]? = some t) (n : Nat) : plcs (ts.drop i) n = if (plc t).2 then plcs (ts.drop (i + 1)) (min (n + (plc t).1) 2048) else none := by
  have hlt := (List.getElem?_eq_some_iff.1 h).1
  rw [List.drop_eq_getElem_cons hlt, (List.getElem?_eq_some_iff.1 h).2, plcs]
inductive InAt (w : World) : Tn → Nd → Prop
  | mk (k : Int) (s : Oct.S) (subs : List Tn) (mn mx : Int) (a : Option Addr) (n c : Nat) (vs : List Nd) (hn : n = subs.length) (hl : vs.length = n) (hm : n ≤ 1000000) (hr : RowAt (fun _ => True) w a vs)
      (hs : ∀ (i : Nat) (t : Tn) (v : Nd), subs[i]? = some t → vs[i]? = some v → InAt w t v) : InAt w (.mk k s subs mn mx) ⟨k, s, a, n, c, mn, mx⟩
theorem flatN_at {vs : List Nd} {i : Nat} {x : Nd} (h : vs[i]? = some x) {m : Nat} (hm : m < 8) : (flatN vs)[8 * i + m]? = x.cells[m]? := by
  induction vs generalizing i with
  | nil => simp at h
  | cons y r ih =>
    have hf : flatN (y :: r) = y.cells ++ flatN r := by simp [flatN]
    have hy : y.cells.length = 8 := rfl
    rw [hf]
    cases i with
    | zero =>
      simp at h
      subst h
      rw [List.getElem?_append_left (by omega)]
      congr 1
      omega
    | succ i =>
      rw [List.getElem?_append_right (by omega), hy, show 8 * (i + 1) + m - 8 = 8 * i + m by omega]
      exact ih (by simpa using h)
theorem RowAt.nth {X : Nat → Prop} {w : World} {a : Option Addr} {vs : List Nd} (h : RowAt X w a vs) {i : Nat} {x : Nd} (hx : vs[i]? = some x) : ∃ b off, a = some ⟨b, off, none⟩ ∧ w.cell? ⟨b, off + i * 8, none⟩ = some (.int .i64 x.k) ∧ w.cell? ⟨b, off + i * 8 + 1, none⟩ = some (.int .u64 (Oct.word x.s 0 : Nat)) ∧ w.cell? ⟨b, off + i * 8 + 2, none⟩ = some (.int .u64 (Oct.word x.s 1 : Nat)) ∧ w.cell? ⟨b, off + i * 8 + 3, none⟩ = some (.int .u64 (Oct.word x.s 2 : Nat)) ∧ w.cell? ⟨b, off + i * 8 + 4, none⟩ = some (.int .u64 (Oct.word x.s 3 : Nat)) ∧ w.cell? ⟨b, off + i * 8 + 5, none⟩ = some (.slice x.a x.n x.c) ∧ w.cell? ⟨b, off + i * 8 + 6, none⟩ = some (.int .i64 x.mn) ∧ w.cell? ⟨b, off + i * 8 + 7, none⟩ = some (.int .i64 x.mx) := by
  rcases h with h | ⟨b, off, e, _, hc⟩
  · subst h; simp at hx
  · rw [Nat.mul_comm i 8]
    refine ⟨b, off, e, ?_, ?_, ?_, ?_, ?_, ?_, ?_, ?_⟩
    · exact hc (8 * i) _ (flatN_at hx (m := 0) (by decide))
    · exact hc (8 * i + 1) _ (flatN_at hx (m := 1) (by decide))
    · exact hc (8 * i + 2) _ (flatN_at hx (m := 2) (by decide))
    · exact hc (8 * i + 3) _ (flatN_at hx (m := 3) (by decide))
    · exact hc (8 * i + 4) _ (flatN_at hx (m := 4) (by decide))
    · exact hc (8 * i + 5) _ (flatN_at hx (m := 5) (by decide))
    · exact hc (8 * i + 6) _ (flatN_at hx (m := 6) (by decide))
    · exact hc (8 * i + 7) _ (flatN_at hx (m := 7) (by decide))
end Go.Proofs.YtmjnobdlgbojoaaGreatDoor
