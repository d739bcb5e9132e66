/- heronlaw07's copied: a machine anew, a mark behind each of its lists. -/
import Derived.Test.YtjmbimgofceanaaG30
import Derived.Deep.AppendSrc
namespace Go.Proofs.Ytjmbimgofceanaa
open Go.RowKit
attribute [local go_sem ↓] Go.wp_at_zero Go.wp_at_succ

def markE : Eg := ⟨77, 0, 0, Oct.none⟩
theorem EAt.front {X : Nat → Prop} {w : World} {a : Option Addr} {es fs : List Eg} (h : EAt X w a (es ++ fs)) : EAt X w a es := by
  rcases h with h | ⟨b, off, ha, hX, hc⟩
  · exact Or.inl (List.append_eq_nil_iff.1 h).1
  · refine Or.inr ⟨b, off, ha, hX, fun j v hj => hc j v ?_⟩
    rw [flatE_append, List.getElem?_append_left (List.getElem?_eq_some_iff.1 hj).1]
    exact hj
theorem UAt.front {X : Nat → Prop} {w : World} {a : Option Addr} {rs ts : List Nat} (h : UAt X w a (rs ++ ts)) : UAt X w a rs := by
  rcases h with h | ⟨b, off, ha, hX, hc⟩
  · exact Or.inl (List.append_eq_nil_iff.1 h).1
  · refine Or.inr ⟨b, off, ha, hX, fun j v hj => hc j v ?_⟩
    rw [List.getElem?_append_left (List.getElem?_eq_some_iff.1 hj).1]
    exact hj
/-- A COPY OF A MACHINE, with a mark behind each list. -/
structure Cop (X : Nat → Prop) (w : World) (M : Ma) (y : Nf) : Prop where
  s : y.S = M.S
  n : y.en = M.es.length
  r : y.rn = M.rs.length
  e : EAt X w y.ea (M.es ++ [markE])
  u : UAt X w y.ra (M.rs ++ [77])
  ec : M.es.length + 1 ≤ y.ec ∧ y.ec ≤ maxLen
  rc : M.rs.length + 1 ≤ y.rc ∧ y.rc ≤ maxLen
theorem Cop.ma {X : Nat → Prop} {w : World} {M : Ma} {y : Nf} (h : Cop X w M y) : MaAt X w M y := ⟨h.s, h.n, h.r, h.e.front, h.u.front⟩
theorem Cop.keep {X Y : Nat → Prop} {w w' : World} {M : Ma} {x : Nf} (h : Cop X w M x) (hXY : ∀ b, X b → b < w.heap.size → Y b) (hk : ∀ b, X b → b < w.heap.size → w'.heap[b]? = w.heap[b]?) : Cop Y w' M x :=
  ⟨h.s, h.n, h.r, h.e.keep hXY hk, h.u.keep hXY hk, h.ec, h.rc⟩
theorem Cop.later {X : Nat → Prop} {w w' : World} {M : Ma} {x : Nf} (h : Cop X w M x) (hb : Below w.heap.size w w') : Cop X w' M x := h.keep (fun _ h _ => h) (fun b _ hlt => hb.block b hlt)
theorem run_append_edges (w : World) (ty : TypeId) (base g n c : Nat) (es : List Eg) (hn : es.length = n) (hown : RowE w base (.slice (some ⟨g, 0, none⟩) n c) es) {X : Nat → Prop} (a : Option Addr) (m cap : Nat) (fs : List Eg) (hm : fs.length = m) (hf : EAt X w a fs) (hl : n + m ≤ 20000000) (hb : base ≤ w.heap.size) :
    ∃ g' c' w', (Builtin.append_ #[35, 35] ty #[.slice (some ⟨g, 0, none⟩) n c, .slice a m cap]).run Try.prog w = .ok (.slice (some ⟨g', 0, none⟩) (n + m) c') w' ∧ RowE w' base (.slice (some ⟨g', 0, none⟩) (n + m) c') (es ++ fs) ∧ w.grownBy w' (some g) := by
  obtain ⟨i0, hi, hz0, hz1, hz2⟩ := info_parts infoE
  subst hn hm
  rcases hf with rfl | ⟨b, off, rfl, _, hc⟩
  · obtain ⟨a2, c2, hV, hc1, _⟩ := hown.form
    cases hV
    have hs : Src Try.prog i0.size 35 (.slice a 0 cap) 0 [] w := by
      cases a with
      | none => exact Src.ofNil w Try.underlying35 cap
      | some ad => exact Src.ofSlice w Try.underlying35 ad 0 cap [] (by simp) (fun j u hj => by simp at hj) (fun u hu => by cases hu)
    have hr := run_append_room_src (P := Try.prog) w 35 35 ty 57 i0 Try.underlying35 hi g 0 es.length c (.slice a 0 cap) 0 [] hs (by omega) (fun j hj => by simp at hj) (fun j hj => by simp at hj)
    exact ⟨g, c, _, hr, by simpa [World.setCells] using hown, by simpa [World.setCells] using (⟨rfl, rfl, rfl, Nat.le_refl _, fun _ _ _ => rfl⟩ : w.grownBy w _)⟩
  · by_cases hf0 : fs.length = 0
    · have hf1 : fs = [] := List.length_eq_zero_iff.1 hf0
      subst hf1
      obtain ⟨a2, c2, hV, hc1, _⟩ := hown.form
      cases hV
      have hs : Src Try.prog i0.size 35 (.slice (some ⟨b, off, none⟩) 0 cap) 0 [] w := Src.ofSlice w Try.underlying35 _ 0 cap [] (by simp) (fun j u hj => by simp at hj) (fun u hu => by cases hu)
      have hr := run_append_room_src (P := Try.prog) w 35 35 ty 57 i0 Try.underlying35 hi g 0 es.length c (.slice (some ⟨b, off, none⟩) 0 cap) 0 [] hs (by omega) (fun j hj => by simp at hj) (fun j hj => by simp at hj)
      exact ⟨g, c, _, hr, by simpa [World.setCells] using hown, by simpa [World.setCells] using (⟨rfl, rfl, rfl, Nat.le_refl _, fun _ _ _ => rfl⟩ : w.grownBy w _)⟩
    · obtain ⟨g', c', w', hr, ho, hg, hgg, hlt⟩ := run_append_lies (P := Try.prog) w 35 ty base 57 i0 _ 7 56 Try.underlying35 hi hz0 hz1 hz2 rfl (by decide) _ es.length _ hown ⟨b, off, none⟩ fs.length cap (flatE fs) (by rw [flatE_length, Nat.mul_comm])
        (fun j v hj => by rw [Go.WideShapes.add_plain]; exact hc j v hj) (flatE_one fs) (by omega) (by simp only [maxLen]; omega) (by omega) hb w.heap.size rfl
      refine ⟨g', c', w', hr, ?_, hg⟩
      unfold RowE
      rw [List.length_append, flatE_append]
      exact ho
theorem run_append_words (w : World) (ty : TypeId) (base g n c : Nat) (es : List Nat) (hn : es.length = n) (hown : RowU w base (.slice (some ⟨g, 0, none⟩) n c) es) {X : Nat → Prop} (a : Option Addr) (m cap : Nat) (fs : List Nat) (hm : fs.length = m) (hf : UAt X w a fs) (hl : n + m ≤ 20000000) (hb : base ≤ w.heap.size) :
    ∃ g' c' w', (Builtin.append_ #[36, 36] ty #[.slice (some ⟨g, 0, none⟩) n c, .slice a m cap]).run Try.prog w = .ok (.slice (some ⟨g', 0, none⟩) (n + m) c') w' ∧ RowU w' base (.slice (some ⟨g', 0, none⟩) (n + m) c') (es ++ fs) ∧ w.grownBy w' (some g) := by
  obtain ⟨i0, hi, hz0, hz1, hz2⟩ := info_parts infoU
  subst hn hm
  by_cases hf0 : fs.length = 0
  · have hf1 : fs = [] := List.length_eq_zero_iff.1 hf0
    subst hf1
    obtain ⟨a2, c2, hV, hc1, _⟩ := hown.form
    cases hV
    have hs : Src Try.prog i0.size 36 (.slice a 0 cap) 0 [] w := by
      cases a with
      | none => exact Src.ofNil w Try.underlying36 cap
      | some ad => exact Src.ofSlice w Try.underlying36 ad 0 cap [] (by simp) (fun j u hj => by simp at hj) (fun u hu => by cases hu)
    have hr := run_append_room_src (P := Try.prog) w 36 36 ty 44 i0 Try.underlying36 hi g 0 es.length c (.slice a 0 cap) 0 [] hs (by omega) (fun j hj => by simp at hj) (fun j hj => by simp at hj)
    exact ⟨g, c, _, hr, by simpa [World.setCells] using hown, by simpa [World.setCells] using (⟨rfl, rfl, rfl, Nat.le_refl _, fun _ _ _ => rfl⟩ : w.grownBy w _)⟩
  · rcases hf with rfl | ⟨b, off, rfl, _, hc⟩
    · exact absurd rfl hf0
    · obtain ⟨g', c', w', hr, ho, hg, hgg, hlt⟩ := run_append_lies (P := Try.prog) w 36 ty base 44 i0 _ 1 4 Try.underlying36 hi hz0 hz1 hz2 rfl (by decide) _ es.length _ hown ⟨b, off, none⟩ fs.length cap (wds fs) (by rw [wds_length, Nat.mul_one])
        (fun j v hj => by
          unfold wds at hj
          rw [List.getElem?_map] at hj
          cases hx : fs[j]? with
          | none => rw [hx] at hj; cases hj
          | some x =>
            rw [hx] at hj
            cases hj
            rw [Go.WideShapes.add_plain]
            exact hc j x hx) (fun v hv => by
          unfold wds at hv
          obtain ⟨x, _, rfl⟩ := List.mem_map.1 hv
          rfl) (by omega) (by simp only [maxLen]; omega) (by omega) hb w.heap.size rfl
      refine ⟨g', c', w', hr, ?_, hg⟩
      unfold RowU
      rw [List.length_append]
      have e : wds (es ++ fs) = wds es ++ wds fs := by simp [wds]
      rw [e]
      exact ho
theorem wpList_append_run {w w' : World} {ops : Array Oper} {rest : List Oper} {o : Oper} {a : Act} {Q : Exit → Act → World → Prop} (t : TypeId) (hgd : o.guard = none) (s y : Operand)
    (ho : o.op = .call { callee := .builtin .append, args := #[s, y], argTypes := #[t, t] }) {V Y v : Value} (hs : a.eval s = V) (hy : a.eval y = Y) (hr : (Builtin.append_ #[t, t] o.type #[V, Y]).run Try.prog w = .ok v w')
    (h : wpList Try.prog ops Q rest (a.put o.dst v) w') : wpList Try.prog ops Q (o :: rest) a w := by
  refine wpList_plain hgd fun K hK => ?_
  unfold Oper.wp execOp
  simp only [ho, resolve, invoke, builtin, Sem.run_bind, Sem.run_pure, Result.andThen_ok, List.map_toArray, List.map_cons, List.map_nil, hs, hy, hr]
  exact hK _ _ h
theorem rowE_empty (w : World) (base : Nat) (hb : base ≤ w.heap.size) : RowE (w.alloc (.cells #[] 57)) base (.slice (some ⟨w.heap.size, 0, none⟩) 0 0) [] := ⟨rfl, Or.inr ⟨w.heap.size, 0, #[], rfl, hb, heap_alloc_new w _, Nat.le_refl _, by decide, rfl, rfl⟩⟩
theorem rowU_empty (w : World) (base : Nat) (hb : base ≤ w.heap.size) : RowU (w.alloc (.cells #[] 44)) base (.slice (some ⟨w.heap.size, 0, none⟩) 0 0) [] := ⟨rfl, Or.inr ⟨w.heap.size, 0, #[], rfl, hb, heap_alloc_new w _, Nat.le_refl _, by decide, rfl, rfl⟩⟩
end Go.Proofs.Ytjmbimgofceanaa
