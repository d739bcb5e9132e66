/- One operation of a region of OctetsLaws. -/
import Derived.Test.YtkgpmaclaahmbaaSlots
namespace Go.Proofs.Ytkgpmaclaahmbaa
open Go Go.RowKit

/-- what an operation's answer is -/
inductive Sp where
  | v (x : Value)
  | sl (l : List Oct.S)
def Sp.holds : Sp → Value → World → Prop
  | .v x, y, _ => y = x
  | .sl l, y, w => ∃ g, y = .slice (some ⟨g, 0, none⟩) l.length l.length ∧ SL w g l
theorem Sp.up {s : Sp} {v : Value} {w w' : World} (h : s.holds v w) (hb : Below w.heap.size w w') : s.holds v w' := by
  cases s with
  | v x => exact h
  | sl l => obtain ⟨g, e, hs⟩ := h; exact ⟨g, e, hs.later hb⟩
def holdsAt (l : List Sp) (i : Nat) (v : Value) (w : World) : Prop := (l.getD i (.v undef)).holds v w
theorem holdsAt.up {l : List Sp} {i : Nat} {v : Value} {w w' : World} (h : holdsAt l i v w) (hb : Below w.heap.size w w') : holdsAt l i v w' := Sp.up h hb
/-- what all of the body keeps -/
def Fr (A B C L N X : Nat) (a : Act) : Prop := a.tmps.size = 164 ∧ a.defers = [] ∧ T a 3 = .pointer (some ⟨A, 0, none⟩) ∧ T a 4 = .pointer (some ⟨B, 0, none⟩) ∧ T a 5 = .pointer (some ⟨C, 0, none⟩) ∧ T a 7 = .pointer (some ⟨L, 0, none⟩) ∧ T a 8 = .pointer (some ⟨N, 0, none⟩) ∧ T a 9 = .pointer (some ⟨X, 0, none⟩)
theorem Fr.put {A B C L N X : Nat} {a : Act} {d : Nat} {v : Value} (hd : d = 6 ∨ 9 < d) (h : Fr A B C L N X a) : Fr A B C L N X (a.put (some d) v) := by
  obtain ⟨h0, h1, h3, h4, h5, h7, h8, h9⟩ := h
  refine ⟨by simpa [Act.put] using h0, by simpa [Act.put] using h1, ?_, ?_, ?_, ?_, ?_, ?_⟩ <;> unfold T at * <;> rw [put_other (by omega)] <;> assumption
theorem span_all (x : Nat) (hx : x < 256) : Oct.span 0 255 x = true := by
  have h : x ≤ 255 := by omega
  simp [Oct.span, h]
theorem inv_eq (s : Oct.S) (x : Nat) : Oct.inv s x = (!s x && !(Oct.has [10] x)) := by
  simp only [Oct.inv, Oct.has, List.contains_eq_mem, List.mem_singleton]
  by_cases e : x = 10 <;> cases s x <;> simp [e]
theorem cnt_sum (a b : Oct.S) : ((cnt (Oct.join a b) : Nat) : Int) + (cnt (Oct.meet a b) : Nat) = (cnt a : Nat) + (cnt b : Nat) := by
  have h : ∀ n, Oct.count (Oct.join a b) n + Oct.count (Oct.meet a b) n = Oct.count a n + Oct.count b n := fun n => by
    induction n with
    | zero => rfl
    | succ n ih =>
      rw [Oct.count_succ, Oct.count_succ, Oct.count_succ, Oct.count_succ, show Oct.join a b n = (a n || b n) from rfl, show Oct.meet a b n = (a n && b n) from rfl]
      by_cases ha : a n = true <;> by_cases hb : b n = true <;> simp [ha, hb] <;> omega
  have := h 256
  unfold cnt
  omega
section
variable {o : Oper} {act : Act} {w : World} {r : Value → World → Prop} {Q : Exit → Act → World → Prop}
theorem ob_join0 {ts : Array TypeId} (ho : o.op = .call { callee := .value (.func 12), args := #[.const (.slice none 0 0)], argTypes := ts }) (hr : ∀ w', r (setV Oct.none) w') : o.wp Try.prog act w (Leaves r o act w) Q :=
  ob_call1c ho enters12 ((join0_gen w).mono (fun _ w' h => ⟨_, h.1, h.2, hr w'⟩))
theorem ob_join2 {p : Nat} {ts : Array TypeId} {s t : Oct.S} (ho : o.op = .call { callee := .value (.func 12), args := #[.tmp p], argTypes := ts }) (h : ∃ g, T act p = .slice (some ⟨g, 0, none⟩) 2 2 ∧ SL w g [s, t]) (hr : ∀ w', r (setV (Oct.join s t)) w') : o.wp Try.prog act w (Leaves r o act w) Q := by
  obtain ⟨g, hp, hS⟩ := h
  exact ob_call1 ho enters12 hp ((join2_gen hS).mono (fun _ w' h => ⟨_, h.1, h.2, hr w'⟩))
theorem ob_join3 {p : Nat} {ts : Array TypeId} {s t x : Oct.S} (ho : o.op = .call { callee := .value (.func 12), args := #[.tmp p], argTypes := ts }) (h : ∃ g, T act p = .slice (some ⟨g, 0, none⟩) 3 3 ∧ SL w g [s, t, x]) (hr : ∀ w', r (setV (Oct.join s (Oct.join t x))) w') : o.wp Try.prog act w (Leaves r o act w) Q := by
  obtain ⟨g, hp, hS⟩ := h
  exact ob_call1 ho enters12 hp ((join3_gen hS).mono (fun _ w' h => ⟨_, h.1, h.2, hr w'⟩))
theorem ob_meet {p q : Nat} {ts : Array TypeId} {s t : Oct.S} (ho : o.op = .call { callee := .value (.func 19), args := #[.tmp p, .tmp q], argTypes := ts }) (hp : T act p = setV s) (hq : T act q = setV t) (hr : ∀ w', r (setV (Oct.meet s t)) w') : o.wp Try.prog act w (Leaves r o act w) Q :=
  ob_call2 ho enters19 hp hq ((meet_gen s t w).mono (fun _ w' h => ⟨_, h.1, h.2, hr w'⟩))
theorem ob_inv {p : Nat} {ts : Array TypeId} {s : Oct.S} (ho : o.op = .call { callee := .value (.func 20), args := #[.tmp p], argTypes := ts }) (hp : T act p = setV s) (hr : ∀ w', r (setV (Oct.inv s)) w') : o.wp Try.prog act w (Leaves r o act w) Q :=
  ob_call1 ho enters20 hp ((not_gen s w).mono (fun _ w' h => ⟨_, h.1, h.2, hr w'⟩))
theorem ob_count {p : Nat} {ts : Array TypeId} {s : Oct.S} (ho : o.op = .call { callee := .value (.func 14), args := #[.tmp p], argTypes := ts }) (hp : T act p = setV s) (hr : ∀ w', r (.int .i64 (cnt s : Nat)) w') : o.wp Try.prog act w (Leaves r o act w) Q :=
  ob_call1 ho enters14 hp ((count_gen s w).mono (fun _ w' h => ⟨_, h.1, h.2, hr w'⟩))
theorem ob_has10 {p : Nat} {ts : Array TypeId} {s : Oct.S} (ho : o.op = .call { callee := .value (.func 11), args := #[.tmp p, .const (.int .u8 10)], argTypes := ts }) (hp : T act p = setV (Oct.inv s)) (hr : ∀ w', r (.bool false) w') : o.wp Try.prog act w (Leaves r o act w) Q :=
  ob_call2c ho enters11 hp ((has_gen (Oct.inv s) 10 w (by decide)).mono (fun _ w' h => ⟨_, h.1, h.2, by rw [show Oct.inv s 10 = false by simp [Oct.inv]]; exact hr w'⟩))
end
end Go.Proofs.Ytkgpmaclaahmbaa
