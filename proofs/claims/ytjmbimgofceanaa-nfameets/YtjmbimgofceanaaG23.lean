/- heronlaw07's copied: a machine anew, a mark behind each of its lists. -/
import Derived.Test.YtjmbimgofceanaaG22
import Derived.Deep.AppendSrc
import Derived.Laws.CopyOwn
import Derived.Test.YtjmbimgofceanaaG20
namespace Go.Proofs.Ytjmbimgofceanaa
open Go.RowKit
attribute [local go_sem ↓] Go.wp_at_zero Go.wp_at_succ

def markE : Eg := ⟨77, 0, 0, Oct.none⟩
theorem EAt.front {X : Nat → Prop} {w : World} {a : Option Addr} {es fs : List Eg} (h : EAt X w a (es ++ fs)) : EAt X w a es := by
  rcases h with h | ⟨b, off, ha, hX, hc⟩
  · exact Or.inl (List.append_eq_nil_iff.1 h).1
  · refine Or.inr ⟨b, off, ha, hX, fun j v hj => hc j v ?_⟩
    rw [flatE_append, List.getElem?_append_left (List.getElem?_eq_some_iff.1 hj).1]
    exact hj
theorem UAt.front {X : Nat → Prop} {w : World} {a : Option Addr} {rs ts : List Nat} (h : UAt X w a (rs ++ ts)) : UAt X w a rs := by
  rcases h with h | ⟨b, off, ha, hX, hc⟩
  · exact Or.inl (List.append_eq_nil_iff.1 h).1
  · refine Or.inr ⟨b, off, ha, hX, fun j v hj => hc j v ?_⟩
    rw [List.getElem?_append_left (List.getElem?_eq_some_iff.1 hj).1]
    exact hj
/-- A COPY OF A MACHINE, with a mark behind each list. -/
structure Cop (X : Nat → Prop) (w : World) (M : Ma) (y : Nf) : Prop where
  s : y.S = M.S
  n : y.en = M.es.length
  r : y.rn = M.rs.length
  e : EAt X w y.ea (M.es ++ [markE])
  u : UAt X w y.ra (M.rs ++ [77])
  ec : M.es.length + 1 ≤ y.ec ∧ y.ec ≤ maxLen
  rc : M.rs.length + 1 ≤ y.rc ∧ y.rc ≤ maxLen
theorem Cop.ma {X : Nat → Prop} {w : World} {M : Ma} {y : Nf} (h : Cop X w M y) : MaAt X w M y := ⟨h.s, h.n, h.r, h.e.front, h.u.front⟩
theorem Cop.keep {X Y : Nat → Prop} {w w' : World} {M : Ma} {x : Nf} (h : Cop X w M x) (hXY : ∀ b, X b → b < w.heap.size → Y b) (hk : ∀ b, X b → b < w.heap.size → w'.heap[b]? = w.heap[b]?) : Cop Y w' M x :=
  ⟨h.s, h.n, h.r, h.e.keep hXY hk, h.u.keep hXY hk, h.ec, h.rc⟩
theorem Cop.later {X : Nat → Prop} {w w' : World} {M : Ma} {x : Nf} (h : Cop X w M x) (hb : Below w.heap.size w w') : Cop X w' M x := h.keep (fun _ h _ => h) (fun b _ hlt => hb.block b hlt)
theorem run_append_edges (w : World) (ty : TypeId) (base g n c : Nat) (es : List Eg) (hn : es.length = n) (hown : RowE w base (.slice (some ⟨g, 0, none⟩) n c) es) {X : Nat → Prop} (a : Option Addr) (m cap : Nat) (fs : List Eg) (hm : fs.length = m) (hf : EAt X w a fs) (hl : n + m ≤ 20000000) (hb : base ≤ w.heap.size) :
    ∃ g' c' w', (Builtin.append_ #[35, 35] ty #[.slice (some ⟨g, 0, none⟩) n c, .slice a m cap]).run Try.prog w = .ok (.slice (some ⟨g', 0, none⟩) (n + m) c') w' ∧ RowE w' base (.slice (some ⟨g', 0, none⟩) (n + m) c') (es ++ fs) ∧ w.grownBy w' (some g) := by
  obtain ⟨i0, hi, hz0, hz1, hz2⟩ := info_parts infoE
  subst hn hm
  rcases hf with rfl | ⟨b, off, rfl, _, hc⟩
  · obtain ⟨a2, c2, hV, hc1, _⟩ := hown.form
    cases hV
    have hs : Src Try.prog i0.size 35 (.slice a 0 cap) 0 [] w := by
      cases a with
      | none => exact Src.ofNil w Try.underlying35 cap
      | some ad => exact Src.ofSlice w Try.underlying35 ad 0 cap [] (by simp) (fun j u hj => by simp at hj) (fun u hu => by cases hu)
    have hr := run_append_room_src (P := Try.prog) w 35 35 ty 57 i0 Try.underlying35 hi g 0 es.length c (.slice a 0 cap) 0 [] hs (by omega) (fun j hj => by simp at hj) (fun j hj => by simp at hj)
    exact ⟨g, c, _, hr, by simpa [World.setCells] using hown, by simpa [World.setCells] using (⟨rfl, rfl, rfl, Nat.le_refl _, fun _ _ _ => rfl⟩ : w.grownBy w _)⟩
  · by_cases hf0 : fs.length = 0
    · have hf1 : fs = [] := List.length_eq_zero_iff.1 hf0
      subst hf1
      obtain ⟨a2, c2, hV, hc1, _⟩ := hown.form
      cases hV
      have hs : Src Try.prog i0.size 35 (.slice (some ⟨b, off, none⟩) 0 cap) 0 [] w := Src.ofSlice w Try.underlying35 _ 0 cap [] (by simp) (fun j u hj => by simp at hj) (fun u hu => by cases hu)
      have hr := run_append_room_src (P := Try.prog) w 35 35 ty 57 i0 Try.underlying35 hi g 0 es.length c (.slice (some ⟨b, off, none⟩) 0 cap) 0 [] hs (by omega) (fun j hj => by simp at hj) (fun j hj => by simp at hj)
      exact ⟨g, c, _, hr, by simpa [World.setCells] using hown, by simpa [World.setCells] using (⟨rfl, rfl, rfl, Nat.le_refl _, fun _ _ _ => rfl⟩ : w.grownBy w _)⟩
    · obtain ⟨g', c', w', hr, ho, hg, hgg, hlt⟩ := run_append_lies (P := Try.prog) w 35 ty base 57 i0 _ 7 56 Try.underlying35 hi hz0 hz1 hz2 rfl (by decide) _ es.length _ hown ⟨b, off, none⟩ fs.length cap (flatE fs) (by rw [flatE_length, Nat.mul_comm])
        (fun j v hj => by rw [Go.WideShapes.add_plain]; exact hc j v hj) (flatE_one fs) (by omega) (by simp only [maxLen]; omega) (by omega) hb w.heap.size rfl
      refine ⟨g', c', w', hr, ?_, hg⟩
      unfold RowE
      rw [List.length_append, flatE_append]
      exact ho
theorem run_append_words (w : World) (ty : TypeId) (base g n c : Nat) (es : List Nat) (hn : es.length = n) (hown : RowU w base (.slice (some ⟨g, 0, none⟩) n c) es) {X : Nat → Prop} (a : Option Addr) (m cap : Nat) (fs : List Nat) (hm : fs.length = m) (hf : UAt X w a fs) (hl : n + m ≤ 20000000) (hb : base ≤ w.heap.size) :
    ∃ g' c' w', (Builtin.append_ #[36, 36] ty #[.slice (some ⟨g, 0, none⟩) n c, .slice a m cap]).run Try.prog w = .ok (.slice (some ⟨g', 0, none⟩) (n + m) c') w' ∧ RowU w' base (.slice (some ⟨g', 0, none⟩) (n + m) c') (es ++ fs) ∧ w.grownBy w' (some g) := by
  obtain ⟨i0, hi, hz0, hz1, hz2⟩ := info_parts infoU
  subst hn hm
  by_cases hf0 : fs.length = 0
  · have hf1 : fs = [] := List.length_eq_zero_iff.1 hf0
    subst hf1
    obtain ⟨a2, c2, hV, hc1, _⟩ := hown.form
    cases hV
    have hs : Src Try.prog i0.size 36 (.slice a 0 cap) 0 [] w := by
      cases a with
      | none => exact Src.ofNil w Try.underlying36 cap
      | some ad => exact Src.ofSlice w Try.underlying36 ad 0 cap [] (by simp) (fun j u hj => by simp at hj) (fun u hu => by cases hu)
    have hr := run_append_room_src (P := Try.prog) w 36 36 ty 44 i0 Try.underlying36 hi g 0 es.length c (.slice a 0 cap) 0 [] hs (by omega) (fun j hj => by simp at hj) (fun j hj => by simp at hj)
    exact ⟨g, c, _, hr, by simpa [World.setCells] using hown, by simpa [World.setCells] using (⟨rfl, rfl, rfl, Nat.le_refl _, fun _ _ _ => rfl⟩ : w.grownBy w _)⟩
  · rcases hf with rfl | ⟨b, off, rfl, _, hc⟩
    · exact absurd rfl hf0
    · obtain ⟨g', c', w', hr, ho, hg, hgg, hlt⟩ := run_append_lies (P := Try.prog) w 36 ty base 44 i0 _ 1 4 Try.underlying36 hi hz0 hz1 hz2 rfl (by decide) _ es.length _ hown ⟨b, off, none⟩ fs.length cap (wds fs) (by rw [wds_length, Nat.mul_one])
        (fun j v hj => by
          unfold wds at hj
          rw [List.getElem?_map] at hj
          cases hx : fs[j]? with
          | none => rw [hx] at hj; cases hj
          | some x =>
            rw [hx] at hj
            cases hj
            rw [Go.WideShapes.add_plain]
            exact hc j x hx) (fun v hv => by
          unfold wds at hv
          obtain ⟨x, _, rfl⟩ := List.mem_map.1 hv
          rfl) (by omega) (by simp only [maxLen]; omega) (by omega) hb w.heap.size rfl
      refine ⟨g', c', w', hr, ?_, hg⟩
      unfold RowU
      rw [List.length_append]
      have e : wds (es ++ fs) = wds es ++ wds fs := by simp [wds]
      rw [e]
      exact ho
theorem wpList_append_run {w w' : World} {ops : Array Oper} {rest : List Oper} {o : Oper} {a : Act} {Q : Exit → Act → World → Prop} (t : TypeId) (hgd : o.guard = none) (s y : Operand)
    (ho : o.op = .call { callee := .builtin .append, args := #[s, y], argTypes := #[t, t] }) {V Y v : Value} (hs : a.eval s = V) (hy : a.eval y = Y) (hr : (Builtin.append_ #[t, t] o.type #[V, Y]).run Try.prog w = .ok v w')
    (h : wpList Try.prog ops Q rest (a.put o.dst v) w') : wpList Try.prog ops Q (o :: rest) a w := by
  refine wpList_plain hgd fun K hK => ?_
  unfold Oper.wp execOp
  simp only [ho, resolve, invoke, builtin, Sem.run_bind, Sem.run_pure, Result.andThen_ok, List.map_toArray, List.map_cons, List.map_nil, hs, hy, hr]
  exact hK _ _ h
theorem rowE_empty (w : World) (base : Nat) (hb : base ≤ w.heap.size) : RowE (w.alloc (.cells #[] 57)) base (.slice (some ⟨w.heap.size, 0, none⟩) 0 0) [] := ⟨rfl, Or.inr ⟨w.heap.size, 0, #[], rfl, hb, heap_alloc_new w _, Nat.le_refl _, by decide, rfl, rfl⟩⟩
theorem rowU_empty (w : World) (base : Nat) (hb : base ≤ w.heap.size) : RowU (w.alloc (.cells #[] 44)) base (.slice (some ⟨w.heap.size, 0, none⟩) 0 0) [] := ⟨rfl, Or.inr ⟨w.heap.size, 0, #[], rfl, hb, heap_alloc_new w _, Nat.le_refl _, by decide, rfl, rfl⟩⟩
end Go.Proofs.Ytjmbimgofceanaa

/- heronlaw07's add; rows of bools copied and begun anew. -/
namespace Go.Proofs.Ytjmbimgofceanaa
open Go.RowKit
attribute [local go_sem ↓] Go.wp_at_zero Go.wp_at_succ

def bt (l : List Bool) (j : Nat) : Prop := (l[j]?).getD false = true
/-- bools in a block -/
def BAt (w : World) (g : Nat) (bs : List Bool) : Prop := ∀ (j : Nat) (b : Bool), bs[j]? = some b → w.cell? ⟨g, j, none⟩ = some (.bool b)
theorem BAt.later {w w' : World} {g : Nat} {bs : List Bool} (h : BAt w g bs) (hb : Below w.heap.size w w') : BAt w' g bs := fun j b hj => (World.cell?_of_block (w := w) (hb.block g (lt_of_cell (h j b hj)))).trans (h j b hj)
theorem BAt.same {w w' : World} {g : Nat} {bs : List Bool} (h : BAt w g bs) (hb : w'.heap[g]? = w.heap[g]?) : BAt w' g bs := fun j b hj => (World.cell?_of_block (w := w) hb).trans (h j b hj)
theorem RowB.bat {w : World} {base g n c : Nat} {bs : List Bool} (h : RowB w base (.slice (some ⟨g, 0, none⟩) n c) bs) : BAt w g bs := fun _ _ hj => (h.cell hj).1
theorem bt_set {l : List Bool} {i : Nat} (h : i < l.length) (j : Nat) : bt (l.set i true) j ↔ bt l j ∨ j = i := by
  unfold bt
  by_cases e : j = i
  · subst e
    rw [List.getElem?_set_self h]
    simp
  · rw [List.getElem?_set_ne (fun h => e h.symm)]
    simp [e]
theorem bt_lt {l : List Bool} {j : Nat} (h : bt l j) : j < l.length := by
  unfold bt at h
  by_cases hj : j < l.length
  · exact hj
  · rw [List.getElem?_eq_none (by omega)] at h; cases h
theorem bt_of {l : List Bool} {j : Nat} {b : Bool} (h : l[j]? = some b) : bt l j ↔ b = true := by unfold bt; rw [h]; rfl
theorem grown_put {w u : World} {g : Nat} (h : w.grownBy u (some g)) (j : Nat) (v : Value) : w.grownBy (u.setCell ⟨g, j, none⟩ v) (some g) :=
  ⟨h.os, h.tape, h.output, by have := h.size; simpa [World.setCell] using this, fun k hk hne => (Below.heap_setCell u ⟨g, j, none⟩ v k (fun e => by have e : k = g := e; exact hne (by rw [e]))).trans (h.block k hk hne)⟩
theorem grown_rfl (w : World) (r : Option Nat) : w.grownBy w r := ⟨rfl, rfl, rfl, Nat.le_refl _, fun _ _ _ => rfl⟩
/-- WHAT add LEAVES. -/
def AddPost (w : World) (base g N c : Nat) (bs ms : List Bool) (e : Ending) (w' : World) : Prop := ∃ (ok : Bool) (bs' : List Bool), e = .returned (.bool ok) ∧ RowB w' base (.slice (some ⟨g, 0, none⟩) N c) bs' ∧ w.grownBy w' (some g) ∧ (∀ j, bt bs' j ↔ bt bs j ∨ bt ms j) ∧ (ok = false → bs' = bs) ∧ (ok = true → bs'.count false < bs.count false)
set_option maxRecDepth 4000 in
set_option maxHeartbeats 8000000 in
theorem add_any {base g h N c ch : Nat} {bs ms : List Bool} (w : World) (hr : RowB w base (.slice (some ⟨g, 0, none⟩) N c) bs) (hm : BAt w h ms) (hl : ms.length = N) (hne : h ≠ g) (hN : N ≤ 1000000) : Calls Try.prog 57 #[.slice (some ⟨g, 0, none⟩) N c, .slice (some ⟨h, 0, none⟩) N ch] w (AddPost w base g N c bs ms) := by
  have hbl : bs.length = N := hr.lt.2.1.symm
  have HR : Hid (RowB w base (.slice (some ⟨g, 0, none⟩) N c) bs) := hr
  have HM : Hid (BAt w h ms) := hm
  have HL : Hid (ms.length = N ∧ bs.length = N) := ⟨hl, hbl⟩
  have HHL : Hid (h < w.heap.size ∨ ms = []) := by
    cases ms with
    | nil => exact Or.inr rfl
    | cons b r => exact Or.inl (lt_of_cell (hm 0 b rfl))
  have HNE : Hid (h ≠ g) := hne
  clear hr hm hl hbl hne
  go_enter Try.func57, Try.ntmps57
  go_wp2_with fail
  go_loopw [5, 9] (fun v i u => ∃ (k : Nat) (ok : Bool) (bk : List Bool), v = .bool ok ∧ i = .int .i64 (k : Nat) ∧ k ≤ N ∧ Hid (RowB u base (.slice (some ⟨g, 0, none⟩) N c) bk) ∧ Hid (w.grownBy u (some g)) ∧ Hid ((∀ j, bt bk j ↔ bt bs j ∨ (j < k ∧ bt ms j)) ∧ (ok = false → bk = bs) ∧ (ok = true → bk.count false < bs.count false))) (fun _ i _ => N - (intOf i).toNat)
  case atStart => exact ⟨0, false, bs, rfl, rfl, Nat.zero_le _, HR, grown_rfl _ _, ⟨fun j => by simp, fun _ => rfl, fun h => by cases h⟩⟩
  case round =>
    obtain ⟨k, ok, bk, rfl, rfl, hk, HRk, HGk, HKk⟩ := hrel
    have hkl : bk.length = N := HRk.out.lt.2.1.symm
    by_cases hlt : k < N
    · have hlt' : (k : Int) < (N : Int) := by omega
      obtain ⟨m, hm⟩ : ∃ m, ms[k]? = some m := ⟨_, List.getElem?_eq_getElem (by rw [HL.out.1]; exact hlt)⟩
      obtain ⟨b, hb⟩ : ∃ b, bk[k]? = some b := ⟨_, List.getElem?_eq_getElem (by rw [hkl]; exact hlt)⟩
      have cm : wr.cell? ⟨h, k, none⟩ = some (.bool m) := by
        have h1 := HM.out k m hm
        exact (World.cell?_of_block (w := w) (HGk.out.block h (lt_of_cell h1) (fun e => by cases e; exact HNE.out rfl))).trans h1
      obtain ⟨cb, fb⟩ := HRk.out.cell hb
      have HMB : Hid (ms[k]? = some m ∧ bk[k]? = some b) := ⟨hm, hb⟩
      have HKL : Hid (bk.length = N) := hkl
      have HSTEP : Hid (m = false ∨ b = true → ∀ j, bt bk j ↔ bt bs j ∨ (j < k + 1 ∧ bt ms j)) := fun hc j => by
        rw [HKk.out.1 j]
        constructor
        · rintro (h1 | ⟨h1, h2⟩)
          · exact Or.inl h1
          · exact Or.inr ⟨by omega, h2⟩
        · rintro (h1 | ⟨h1, h2⟩)
          · exact Or.inl h1
          · by_cases hjk : j = k
            · subst hjk
              have hmt := (bt_of HMB.out.1).1 h2
              rcases hc with hc | hc
              · rw [hc] at hmt; cases hmt
              · have := (HKk.out.1 j).1 ((bt_of HMB.out.2).2 hc)
                exact this
            · exact Or.inr ⟨by omega, h2⟩
      clear hm hb hkl
      cases m with
      | false =>
        have HN2 := HSTEP.out (Or.inl rfl)
        go_wp2
        go_roundw
        case rel => exact ⟨k + 1, ok, bk, rfl, by go_num, by omega, HRk, HGk, ⟨HN2, HKk.out.2⟩⟩
        case measure => simp [intOf]; omega
      | true =>
        cases b with
        | true =>
          have HN2 := HSTEP.out (Or.inr rfl)
          go_wp2
          go_roundw
          case rel => exact ⟨k + 1, ok, bk, rfl, by go_num, by omega, HRk, HGk, ⟨HN2, HKk.out.2⟩⟩
          case measure => simp [intOf]; omega
        | false =>
          have HR2 : Hid (RowB (wr.setCell ⟨g, k, none⟩ (.bool true)) base (.slice (some ⟨g, 0, none⟩) N c) (bk.set k true)) := HRk.out.put k true
          have HG2 : Hid (w.grownBy (wr.setCell ⟨g, k, none⟩ (.bool true)) (some g)) := grown_put HGk.out k _
          have HK2 : Hid ((∀ j, bt (bk.set k true) j ↔ bt bs j ∨ (j < k + 1 ∧ bt ms j)) ∧ (true = false → bk.set k true = bs) ∧ (true = true → (bk.set k true).count false < bs.count false)) := by
            refine ⟨fun j => ?_, (fun h => by cases h), fun _ => ?_⟩
            · rw [bt_set (by rw [HKL.out]; exact hlt), HKk.out.1 j]
              constructor
              · rintro ((h1 | ⟨h1, h2⟩) | h1)
                · exact Or.inl h1
                · exact Or.inr ⟨by omega, h2⟩
                · subst h1
                  exact Or.inr ⟨by omega, (bt_of HMB.out.1).2 rfl⟩
              · rintro (h1 | ⟨h1, h2⟩)
                · exact Or.inl (Or.inl h1)
                · by_cases hjk : j = k
                  · exact Or.inr hjk
                  · exact Or.inl (Or.inr ⟨by omega, h2⟩)
            · have h1 := count_set HMB.out.2
              have h2 := HKk.out.2
              cases ok with
              | false =>
                have := h2.1 rfl
                rw [this] at h1 ⊢
                omega
              | true =>
                have := h2.2 rfl
                omega
          clear HRk HGk HSTEP
          go_wp2
          go_roundw
          case rel => exact ⟨k + 1, true, bk.set k true, rfl, by go_num, by omega, HR2, HG2, HK2⟩
          case measure => simp [intOf]; omega
    · have hlt' : ¬ (k : Int) < (N : Int) := by omega
      have HF : Hid (∀ j, bt bk j ↔ bt bs j ∨ bt ms j) := fun j => by
        rw [HKk.out.1 j]
        constructor
        · rintro (h1 | ⟨_, h1⟩)
          · exact Or.inl h1
          · exact Or.inr h1
        · rintro (h1 | h1)
          · exact Or.inl h1
          · exact Or.inr ⟨by have := bt_lt h1; have := HL.out.1; omega, h1⟩
      go_wp2
      go_ret
      exact ⟨ok, bk, rfl, HRk.out, HGk.out, HF.out, HKk.out.2.1, HKk.out.2.2⟩
theorem bls_one (bs : List Bool) : ∀ v ∈ bls bs, v.oneCell' = true := fun v hv => by
  unfold bls at hv
  obtain ⟨b, _, rfl⟩ := List.mem_map.1 hv
  rfl
theorem bls_at (bs : List Bool) (j : Nat) : (bls bs)[j]? = (bs[j]?).map Value.bool := by unfold bls; rw [List.getElem?_map]
/-- bools copied over a whole row -/
theorem wpList_copy_bools {w : World} {ops : Array Oper} {rest : List Oper} {o : Oper} {a : Act} {Q : Exit → Act → World → Prop} (hgd : o.guard = none) (d s : Operand)
    (ho : o.op = .call { callee := .builtin .copy, args := #[d, s], argTypes := #[73, 73] })
    (base g n c : Nat) (xs : List Bool) (hd : a.eval d = .slice (some ⟨g, 0, none⟩) n c) (hown : RowB w base (.slice (some ⟨g, 0, none⟩) n c) xs) (h cap : Nat) (zs : List Bool) (hn : zs.length = n) (hs : a.eval s = .slice (some ⟨h, 0, none⟩) n cap) (hb : BAt w h zs)
    (hk : ∀ w', RowB w' base (.slice (some ⟨g, 0, none⟩) n c) zs → Below g w w' → wpList Try.prog ops Q rest (a.put o.dst (goInt n)) w') : wpList Try.prog ops Q (o :: rest) a w := by
  have hlx : n = xs.length := hown.lt.2.1
  rcases hown.2 with ⟨hv, _⟩ | ⟨g', c', cur, hv, hBg, hg, hc, hm, hsz, ht⟩
  · cases hv
  · simp only [Value.slice.injEq, Option.some.injEq, Addr.mk.injEq, and_true] at hv
    obtain ⟨rfl, hv2, rfl⟩ := hv
    subst hn
    have hlen : (bls zs).length = zs.length := bls_length zs
    refine wpList_copy_splice hgd d s 73 73 ho 4 Try.underlying73 (by kernel_rfl) _ _ _ _ _ cap hd hs g 0 cur.toList 4 (by simpa using hg) (bls zs)
      (by rw [hlen]; show _ = min _ _; omega) (fun hp => ⟨rfl, ⟨_, rfl, fun j v hj => ?_⟩⟩) (by simp [hlen, hsz]; omega) (bls_one zs) g w (Below.refl _ _) (Nat.le_refl _) ?_
    · rw [bls_at] at hj
      cases hz : zs[j]? with
      | none => rw [hz] at hj; cases hj
      | some b =>
        rw [hz] at hj
        cases hj
        rw [Go.WideShapes.add_plain, Nat.zero_add]
        exact hb j b hz
    · intro w' hg' hb'
      rw [hlen]
      refine hk w' ⟨by rw [bls_length, Nat.mul_one], Or.inr ⟨g, c, _, rfl, hBg, hg'.out, by omega, hm, ?_, ?_⟩⟩ hb'
      · rw [List.size_toArray, length_splice _ _ _ (by simp [hlen, hsz]; omega)]; simpa using hsz
      · simp [splice, hlen]
theorem wpList_append_by {w : World} {ops : Array Oper} {rest : List Oper} {o : Oper} {a : Act} {Q : Exit → Act → World → Prop} {K : Nat → Nat → Value → World → Prop} {V : Nat → Nat → Value} (hgd : o.guard = none) (s y : Operand) {ts : Array TypeId}
    (ho : o.op = .call { callee := .builtin .append, args := #[s, y], argTypes := ts }) (v1 v2 : Value) (h1 : a.eval s = v1) (h2 : a.eval y = v2)
    (hrun : ∀ ty, ∃ g c w', (Builtin.append_ ts ty #[v1, v2]).run Try.prog w = .ok (V g c) w' ∧ K g c (V g c) w')
    (h : ∀ v w', (∃ g c, v = V g c ∧ K g c (V g c) w') → wpList Try.prog ops Q rest (a.put o.dst v) w') : wpList Try.prog ops Q (o :: rest) a w := by
  refine wpList_plain hgd fun K' hK => ?_
  obtain ⟨g, c, w', hr, hk⟩ := hrun o.type
  unfold Oper.wp execOp
  simp only [ho, resolve, invoke, builtin, Sem.run_bind, Sem.run_pure, Result.andThen_ok, List.map_toArray, List.map_cons, List.map_nil, h1, h2, hr]
  exact hK _ _ (h _ w' ⟨g, c, rfl, hk⟩)
end Go.Proofs.Ytjmbimgofceanaa

/- Trees without the nodes that lay nothing: plain. They lay the same. -/
namespace Go.Proofs.Ytjmbimgofceanaa

def kindT : Tn → Int
  | .mk k _ _ _ _ => k
def emptyT : Tn := .mk 1 Oct.none [] 0 0
def packT : List Tn → Tn
  | [] => emptyT
  | [t] => t
  | t :: u :: ts => .mk 3 Oct.none (t :: u :: ts) 0 0
def timesT (u : Tn) (mn mx : Int) : Tn := if mx = 0 then emptyT else if kindT u = 1 ∨ (mn = 1 ∧ mx = 1) then u else .mk 5 Oct.none [u] mn mx
mutual
def trim : Tn → Tn
  | .mk k s subs mn mx =>
    if k = 3 then packT (trims subs)
    else if k = 4 then .mk 4 Oct.none (trimA subs) 0 0
    else if k = 5 then timesT (trimH subs) mn mx
    else .mk k s subs mn mx
def trims : List Tn → List Tn
  | [] => []
  | t :: ts => if kindT (trim t) = 1 then trims ts else trim t :: trims ts
def trimA : List Tn → List Tn
  | [] => []
  | t :: ts => trim t :: trimA ts
def trimH : List Tn → Tn
  | [] => emptyT
  | t :: _ => trim t
end
theorem trimA_map : ∀ ts : List Tn, trimA ts = ts.map trim
  | [] => by rw [trimA]; rfl
  | t :: ts => by rw [trimA, trimA_map ts]; rfl
theorem trimA_length (ts : List Tn) : (trimA ts).length = ts.length := by rw [trimA_map, List.length_map]
theorem trims_le : ∀ ts : List Tn, (trims ts).length ≤ ts.length
  | [] => by rw [trims]; exact Nat.le_refl _
  | t :: ts => by
    rw [trims]
    have := trims_le ts
    split
    · simp only [List.length_cons]; omega
    · simp only [List.length_cons]; omega
theorem shp_kind {k : Int} {s : Oct.S} {n : Nat} {mn mx : Int} (h : shapedT k s n mn mx = true) : k = 1 ∨ k = 2 ∨ k = 3 ∨ k = 4 ∨ k = 5 ∨ k = 6 ∨ k = 7 := by
  unfold shapedT at h
  by_cases h1 : k = 1 ∨ k = 6 ∨ k = 7
  · omega
  · rw [if_neg h1] at h
    by_cases h2 : k = 2
    · omega
    · rw [if_neg h2] at h
      by_cases h3 : k = 3 ∨ k = 4
      · omega
      · rw [if_neg h3] at h
        by_cases h5 : k = 5
        · omega
        · rw [if_neg h5] at h
          cases h
theorem shp_five {s : Oct.S} {n : Nat} {mn mx : Int} (h : shapedT 5 s n mn mx = true) : n = 1 ∧ (0 ≤ mn ∧ mn ≤ 255) ∧ (mx = -1 ∨ mn ≤ mx ∧ mx ≤ 255) := by
  unfold shapedT at h
  simp [counted] at h
  omega
theorem shp_leaf {k : Int} {s : Oct.S} {n : Nat} {mn mx : Int} (h : shapedT k s n mn mx = true) (hk : k = 1 ∨ k = 2 ∨ k = 6 ∨ k = 7) : n = 0 := by
  unfold shapedT at h
  rcases hk with rfl | rfl | rfl | rfl <;> simp at h <;> omega
theorem raw_empty : raw emptyT = 0 := by unfold emptyT; rw [raw, raws]; rfl
theorem plc_empty : (plc emptyT).2 = true := by
  unfold emptyT
  rw [plc_snd]
  unfold shapedT
  simp [noSet_none, plainT]
theorem raw_pack : ∀ ts : List Tn, raw (packT ts) = raws ts
  | [] => by rw [raws]; exact raw_empty
  | [t] => by rw [raws, raws]; rfl
  | t :: u :: ts => by
    show raw (.mk 3 Oct.none (t :: u :: ts) 0 0) = _
    rw [raw]
    rfl
theorem plc_pack : ∀ ts : List Tn, (∀ t ∈ ts, (plc t).2 = true) → (plc (packT ts)).2 = true
  | [], _ => plc_empty
  | [t], h => h t (by simp)
  | t :: u :: ts, h => by
    show (plc (.mk 3 Oct.none (t :: u :: ts) 0 0)).2 = true
    rw [plc_snd]
    unfold shapedT
    simp only [noSet_none, plainT, Bool.and_eq_true, List.all_eq_true]
    refine ⟨by simp, h⟩
theorem raw_one {t : Tn} (h : (plc t).2 = true) (hk : kindT t = 1) : raw t = 0 := by
  obtain ⟨k, s, subs, mn, mx⟩ := t
  have hk : k = 1 := hk
  subst hk
  obtain ⟨hsh, _⟩ := plc_subs h
  have hn := shp_leaf hsh (Or.inl rfl)
  have hs : subs = [] := List.length_eq_zero_iff.1 hn
  subst hs
  rw [raw, raws]
  rfl
theorem repT_one (r : Nat) : (repT r (1 : Int).toNat 1).toNat = r := by
  unfold repT
  split
  · simp; omega
  · simp
theorem repT_zero (r : Nat) {mn : Int} (h0 : 0 ≤ mn) (h : mn ≤ 0) : (repT r mn.toNat 0).toNat = 0 := by
  have e : mn = 0 := by omega
  subst e
  unfold repT
  split
  · rfl
  · simp
theorem repT_pos {r : Nat} {mn mx : Int} (hr : r ≠ 0) (h0 : 0 ≤ mn) (h1 : mx = -1 ∨ mn ≤ mx) (h2 : mx ≠ 0) : (repT r mn.toNat mx).toNat ≠ 0 := by
  have hp : ∀ m : Int, 0 ≤ m → 0 ≤ m * (r : Int) := fun m hm => Int.mul_nonneg hm (by omega)
  have hq : ∀ m : Int, 1 ≤ m → (r : Int) ≤ m * (r : Int) := fun m hm => by
    have := Int.mul_le_mul_of_nonneg_right hm (by omega : (0 : Int) ≤ (r : Int))
    omega
  unfold repT
  rw [if_neg hr]
  by_cases hm : mx = -1
  · rw [if_pos hm]
    have := hp (mn.toNat : Int) (by omega)
    omega
  · rw [if_neg hm]
    by_cases hl : ((mn.toNat : Nat) : Int) < mx
    · rw [if_pos hl]
      have := hp mx (by omega)
      omega
    · rw [if_neg hl]
      have := hq (mn.toNat : Int) (by omega)
      omega
theorem plc_times {u : Tn} {s : Oct.S} {n : Nat} {mn mx : Int} (hu : (plc u).2 = true) (h : shapedT 5 s n mn mx = true) : (plc (.mk 5 Oct.none [u] mn mx)).2 = true := by
  rw [plc_snd]
  have hc : counted mn mx = true := by
    unfold shapedT at h
    simp at h
    exact h.2
  unfold shapedT
  simp [noSet_none, hc, hu]
theorem trims_mem : ∀ {ts : List Tn} {u : Tn}, u ∈ trims ts → ∃ t ∈ ts, u = trim t ∧ kindT u ≠ 1
  | [], u, h => by rw [trims] at h; cases h
  | t :: ts, u, h => by
    rw [trims] at h
    split at h
    · obtain ⟨x, hx, e⟩ := trims_mem h
      exact ⟨x, by simp [hx], e⟩
    · rename_i hk
      rcases List.mem_cons.1 h with rfl | h
      · exact ⟨t, by simp, rfl, hk⟩
      · obtain ⟨x, hx, e⟩ := trims_mem h
        exact ⟨x, by simp [hx], e⟩
theorem raws_map {f : Tn → Tn} : ∀ ts : List Tn, (∀ t ∈ ts, raw (f t) = raw t) → raws (ts.map f) = raws ts
  | [], _ => rfl
  | t :: ts, h => by
    rw [List.map_cons, raws, raws, h t (by simp), raws_map ts (fun u hu => h u (by simp [hu]))]
theorem raws_trims : ∀ ts : List Tn, (∀ t ∈ ts, (plc (trim t)).2 = true ∧ raw (trim t) = raw t) → raws (trims ts) = raws ts
  | [], _ => by rw [trims]
  | t :: ts, h => by
    have ih := raws_trims ts (fun u hu => h u (by simp [hu]))
    obtain ⟨h1, h2⟩ := h t (by simp)
    rw [trims, raws]
    split
    · rename_i hk
      rw [ih, ← h2, raw_one h1 hk, Nat.zero_add]
    · rw [raws, ih, h2]
/-- trimmed, it is a tree of as many places -/
theorem trim_tree : ∀ (z : Nat) (t : Tn), SizeOf.sizeOf t ≤ z → (plc t).2 = true → (plc (trim t)).2 = true ∧ raw (trim t) = raw t
  | 0, .mk k s subs mn mx, hz, _ => by simp at hz
  | z + 1, .mk k s subs mn mx, hz, h => by
    obtain ⟨hsh, hsub⟩ := plc_subs h
    have ih : ∀ t ∈ subs, (plc (trim t)).2 = true ∧ raw (trim t) = raw t := fun t ht => trim_tree z t (by
      have := List.sizeOf_lt_of_mem ht
      simp at hz
      omega) (hsub t ht)
    rw [trim]
    rcases shp_kind hsh with rfl | rfl | rfl | rfl | rfl | rfl | rfl
    · simp [h]
    · simp [h]
    · rw [if_pos rfl]
      refine ⟨plc_pack _ (fun u hu => ?_), ?_⟩
      · obtain ⟨t, ht, rfl, _⟩ := trims_mem hu
        exact (ih t ht).1
      · rw [raw_pack, raws_trims subs ih, raw]
        rfl
    · rw [if_neg (by decide), if_pos rfl]
      refine ⟨?_, ?_⟩
      · rw [plc_snd]
        have hn : 2 ≤ subs.length := by
          unfold shapedT at hsh
          simp at hsh
          omega
        unfold shapedT
        simp only [noSet_none, plainT, Bool.and_eq_true, List.all_eq_true, trimA_length]
        refine ⟨by simp [hn], fun u hu => ?_⟩
        rw [trimA_map] at hu
        obtain ⟨t, ht, rfl⟩ := List.mem_map.1 hu
        exact (ih t ht).1
      · rw [raw, raw, trimA_length, trimA_map, raws_map subs (fun t ht => (ih t ht).2)]
        rfl
    · rw [if_neg (by decide), if_neg (by decide), if_pos rfl]
      obtain ⟨h1, ⟨h0, _⟩, hx⟩ := shp_five hsh
      match subs, h1, ih, hsub with
      | [u], _, ih, hsub =>
        obtain ⟨i1, i2⟩ := ih u (by simp)
        have e : raw (.mk 5 s [u] mn mx) = (repT (raw u) mn.toNat mx).toNat := by
          rw [raw, raws, raws]
          rfl
        rw [trimH, e]
        unfold timesT
        by_cases hm : mx = 0
        · rw [if_pos hm, hm]
          exact ⟨plc_empty, by rw [raw_empty, repT_zero (raw u) h0 (by omega)]⟩
        rw [if_neg hm]
        by_cases hk : kindT (trim u) = 1 ∨ (mn = 1 ∧ mx = 1)
        · rw [if_pos hk]
          refine ⟨i1, ?_⟩
          rcases hk with hk | ⟨rfl, rfl⟩
          · rw [raw_one i1 hk]
            have h2 : raw u = 0 := by rw [← i2]; exact raw_one i1 hk
            unfold repT
            rw [if_pos h2]
            rfl
          · rw [repT_one, i2]
        · rw [if_neg hk]
          refine ⟨plc_times i1 hsh, ?_⟩
          rw [raw, raws, raws, i2]
          rfl
    · simp [h]
    · simp [h]
theorem trim_plc {t : Tn} (h : (plc t).2 = true) : (plc (trim t)).2 = true := (trim_tree _ t (Nat.le_refl _) h).1
theorem trim_raw {t : Tn} (h : (plc t).2 = true) : raw (trim t) = raw t := (trim_tree _ t (Nat.le_refl _) h).2
theorem places_raw {t : Tn} (h : (plc t).2 = true) : placesOf t = min (raw t) 2048 + 1 := by unfold placesOf; rw [if_pos h, plc_raw t h]
theorem trim_places {t : Tn} (h : (plc t).2 = true) : placesOf (trim t) = placesOf t := by rw [places_raw h, places_raw (trim_plc h), trim_raw h]
theorem raws_mem : ∀ {ts : List Tn} {t : Tn}, t ∈ ts → raw t ≤ raws ts
  | [], t, h => by cases h
  | u :: ts, t, h => by
    rw [raws]
    rcases List.mem_cons.1 h with rfl | h
    · omega
    · have := raws_mem h
      omega
/-- what is not NodeEmpty lays something -/
theorem trim_lays : ∀ (z : Nat) (t : Tn), SizeOf.sizeOf t ≤ z → (plc t).2 = true → kindT (trim t) ≠ 1 → raw t ≠ 0
  | 0, .mk k s subs mn mx, hz, _, _ => by simp at hz
  | z + 1, .mk k s subs mn mx, hz, h, hk1 => by
    obtain ⟨hsh, hsub⟩ := plc_subs h
    have ih : ∀ t ∈ subs, kindT (trim t) ≠ 1 → raw t ≠ 0 := fun t ht => trim_lays z t (by
      have := List.sizeOf_lt_of_mem ht
      simp at hz
      omega) (hsub t ht)
    rw [trim] at hk1
    rcases shp_kind hsh with rfl | rfl | rfl | rfl | rfl | rfl | rfl
    · exact absurd rfl hk1
    · rw [raw]; exact Nat.one_ne_zero
    · rw [if_pos rfl] at hk1
      rw [raw]
      show raws subs ≠ 0
      cases hts : trims subs with
      | nil => rw [hts] at hk1; exact absurd rfl hk1
      | cons u us =>
        obtain ⟨t, ht, rfl, hk⟩ := trims_mem (ts := subs) (u := u) (by rw [hts]; simp)
        have h1 := ih t ht hk
        have h2 := raws_mem ht
        omega
    · rw [raw]
      exact Nat.succ_ne_zero _
    · rw [if_neg (by decide), if_neg (by decide), if_pos rfl] at hk1
      obtain ⟨h1, ⟨h0, _⟩, hx⟩ := shp_five hsh
      match subs, h1, ih, hk1, hsub with
      | [u], _, ih, hk1, hsub =>
        have e : raw (.mk 5 s [u] mn mx) = (repT (raw u) mn.toNat mx).toNat := by
          rw [raw, raws, raws]
          rfl
        rw [e]
        rw [trimH] at hk1
        unfold timesT at hk1
        by_cases hm : mx = 0
        · rw [if_pos hm] at hk1; exact absurd rfl hk1
        rw [if_neg hm] at hk1
        have hku : kindT (trim u) ≠ 1 := by
          by_cases hk : kindT (trim u) = 1 ∨ (mn = 1 ∧ mx = 1)
          · rw [if_pos hk] at hk1; exact hk1
          · exact fun e => hk (Or.inl e)
        exact repT_pos (ih u (by simp) hku) h0 (by omega) hm
    · rw [raw]; exact Nat.one_ne_zero
    · rw [raw]; exact Nat.one_ne_zero
theorem lay_empty (m : Mk) (a : Nat) : lay emptyT m a = (m, a) := by unfold emptyT; rw [lay_mk]; simp
theorem lay_kind1 {t : Tn} (h : kindT t = 1) (m : Mk) (a : Nat) : lay t m a = (m, a) := by
  obtain ⟨k, s, subs, mn, mx⟩ := t
  have h : k = 1 := h
  subst h
  rw [lay_mk]
  simp
theorem lay_pack : ∀ (ts : List Tn) (m : Mk) (a : Nat), lay (packT ts) m a = seqs ts m a
  | [], m, a => by rw [seqs]; exact lay_empty m a
  | [t], m, a => by rw [seqs, seqs]; rfl
  | t :: u :: ts, m, a => by
    show lay (.mk 3 Oct.none (t :: u :: ts) 0 0) m a = _
    rw [lay_mk]
    simp
theorem seqs_trims : ∀ (ts : List Tn), (∀ t ∈ ts, ∀ m a, lay (trim t) m a = lay t m a) → ∀ (m : Mk) (a : Nat), seqs (trims ts) m a = seqs ts m a
  | [], _, m, a => by rw [trims]
  | t :: ts, h, m, a => by
    have ih := seqs_trims ts (fun u hu => h u (by simp [hu]))
    have h1 := h t (by simp)
    rw [trims, seqs]
    split
    · rename_i hk
      rw [← h1, lay_kind1 hk]
      exact ih m a
    · rw [seqs, h1]
      exact ih _ _
theorem alts_trim : ∀ (ts : List Tn), (∀ t ∈ ts, ∀ m a, lay (trim t) m a = lay t m a) → ∀ (m : Mk) (a : Nat) (l : List Nat), alts (trimA ts) m a l = alts ts m a l
  | [], _, m, a, l => by rw [trimA]
  | t :: ts, h, m, a, l => by
    rw [trimA, alts, alts, h t (by simp)]
    exact alts_trim ts (fun u hu => h u (by simp [hu])) _ _ _
/-- TRIMMED, IT LAYS THE SAME. -/
theorem trim_lay : ∀ (z : Nat) (t : Tn), SizeOf.sizeOf t ≤ z → (plc t).2 = true → ∀ (m : Mk) (a : Nat), lay (trim t) m a = lay t m a
  | 0, .mk k s subs mn mx, hz, _ => by simp at hz
  | z + 1, .mk k s subs mn mx, hz, h => fun m a => by
    obtain ⟨hsh, hsub⟩ := plc_subs h
    have ih : ∀ t ∈ subs, ∀ m a, lay (trim t) m a = lay t m a := fun t ht => trim_lay z t (by
      have := List.sizeOf_lt_of_mem ht
      simp at hz
      omega) (hsub t ht)
    rw [trim]
    rcases shp_kind hsh with rfl | rfl | rfl | rfl | rfl | rfl | rfl
    · simp
    · simp
    · rw [if_pos rfl, lay_pack, seqs_trims subs ih, lay_mk]
      simp
    · rw [if_neg (by decide), if_pos rfl, lay_mk, lay_mk]
      simp [alts_trim subs ih]
    · rw [if_neg (by decide), if_neg (by decide), if_pos rfl]
      obtain ⟨h1, ⟨h0, _⟩, hx⟩ := shp_five hsh
      match subs, h1, ih, hsub with
      | [u], _, ih, hsub =>
        have hu := hsub u (by simp)
        have hl : lay (trim u) = lay u := by funext m a; exact ih u (by simp) m a
        have e : lay (.mk 5 s [u] mn mx) m a = timesOf (lay u) (placesOf u) mn mx m a := by rw [lay_mk]; simp [hd]
        rw [trimH, e]
        unfold timesT
        by_cases hm : mx = 0
        · rw [if_pos hm, lay_empty]
          have hn : mn = 0 := by omega
          subst hm hn
          unfold timesOf
          split
          · rfl
          · simp [rounds]
        rw [if_neg hm]
        by_cases hk : kindT (trim u) = 1
        · rw [if_pos (Or.inl hk), lay_kind1 hk]
          have hr : raw u = 0 := by rw [← trim_raw hu]; exact raw_one (trim_plc hu) hk
          unfold timesOf
          rw [if_pos (by rw [places_raw hu, hr]; simp)]
        have hp : placesOf u ≠ 1 := by
          have := trim_lays _ u (Nat.le_refl _) hu hk
          rw [places_raw hu]
          omega
        by_cases h11 : mn = 1 ∧ mx = 1
        · rw [if_pos (Or.inr h11), hl]
          obtain ⟨rfl, rfl⟩ := h11
          unfold timesOf
          rw [if_neg hp]
          simp [rounds]
        · rw [if_neg (by rintro (h | h) <;> contradiction), lay_mk]
          simp only [show ¬ ((5 : Int) = 2 ∨ (5 : Int) = 6 ∨ (5 : Int) = 7) by decide, show ¬ (5 : Int) = 3 by decide, show ¬ (5 : Int) = 4 by decide, if_false, if_true, hd]
          rw [hl, trim_places hu]
    · simp
    · simp
mutual
/-- no repeat of what lays nothing -/
def tidy : Tn → Bool
  | .mk k _ subs _ _ => (decide (k ≠ 5) || decide (placesOf (hd subs) ≠ 1)) && tidys subs
def tidys : List Tn → Bool
  | [] => true
  | t :: ts => tidy t && tidys ts
end
theorem tidys_iff : ∀ ts : List Tn, tidys ts = true ↔ ∀ t ∈ ts, tidy t = true
  | [] => by simp [tidys]
  | t :: ts => by simp [tidys, tidys_iff ts]
theorem tidy_pack : ∀ ts : List Tn, (∀ t ∈ ts, tidy t = true) → tidy (packT ts) = true
  | [], _ => by
    show tidy emptyT = true
    unfold emptyT
    rw [tidy, tidys]
    simp
  | [t], h => h t (by simp)
  | t :: u :: ts, h => by
    show tidy (.mk 3 Oct.none (t :: u :: ts) 0 0) = true
    rw [tidy, (tidys_iff _).2 h]
    simp
theorem trim_tidy : ∀ (z : Nat) (t : Tn), SizeOf.sizeOf t ≤ z → (plc t).2 = true → tidy (trim t) = true
  | 0, .mk k s subs mn mx, hz, _ => by simp at hz
  | z + 1, .mk k s subs mn mx, hz, h => by
    obtain ⟨hsh, hsub⟩ := plc_subs h
    have ih : ∀ t ∈ subs, tidy (trim t) = true := fun t ht => trim_tidy z t (by
      have := List.sizeOf_lt_of_mem ht
      simp at hz
      omega) (hsub t ht)
    have hleaf : (k = 1 ∨ k = 2 ∨ k = 6 ∨ k = 7) → tidy (.mk k s subs mn mx) = true := fun hk => by
      have hn : subs = [] := List.length_eq_zero_iff.1 (shp_leaf hsh hk)
      subst hn
      rw [tidy, tidys]
      simp
      omega
    rw [trim]
    rcases shp_kind hsh with rfl | rfl | rfl | rfl | rfl | rfl | rfl
    · simpa using hleaf (by decide)
    · simpa using hleaf (by decide)
    · rw [if_pos rfl]
      refine tidy_pack _ (fun u hu => ?_)
      obtain ⟨t, ht, rfl, _⟩ := trims_mem hu
      exact ih t ht
    · rw [if_neg (by decide), if_pos rfl, tidy, (tidys_iff _).2 (fun u hu => ?_)]
      · simp
      · rw [trimA_map] at hu
        obtain ⟨t, ht, rfl⟩ := List.mem_map.1 hu
        exact ih t ht
    · rw [if_neg (by decide), if_neg (by decide), if_pos rfl]
      obtain ⟨h1, ⟨h0, _⟩, hx⟩ := shp_five hsh
      match subs, h1, ih, hsub with
      | [u], _, ih, hsub =>
        have hu := hsub u (by simp)
        rw [trimH]
        unfold timesT
        by_cases hm : mx = 0
        · rw [if_pos hm]; exact tidy_pack [] (by simp)
        rw [if_neg hm]
        by_cases hk : kindT (trim u) = 1 ∨ (mn = 1 ∧ mx = 1)
        · rw [if_pos hk]; exact ih u (by simp)
        · rw [if_neg hk, tidy, tidys, tidys]
          have hp : placesOf (trim u) ≠ 1 := by
            have := trim_lays _ u (Nat.le_refl _) hu (fun e => hk (Or.inl e))
            rw [trim_places hu, places_raw hu]
            omega
          simp [hd, hp, ih u (by simp)]
    · simpa using hleaf (by decide)
    · simpa using hleaf (by decide)
/-- trees below a tree are no greater -/
theorem raw_sub {k : Int} {s : Oct.S} {subs : List Tn} {mn mx : Int} (h : (plc (.mk k s subs mn mx)).2 = true) (hx0 : k = 5 → mx ≠ 0) : ∀ t ∈ subs, raw t ≤ raw (.mk k s subs mn mx) := by
  intro t ht
  obtain ⟨hsh, hsub⟩ := plc_subs h
  have h1 := raws_mem ht
  rw [raw]
  unfold ends
  by_cases h2 : k = 2 ∨ k = 6 ∨ k = 7
  · have := shp_leaf hsh (by omega)
    have hs : subs = [] := List.length_eq_zero_iff.1 this
    subst hs
    cases ht
  rw [if_neg h2]
  by_cases h4 : k = 4
  · rw [if_pos h4]; omega
  rw [if_neg h4]
  by_cases h5 : k = 5
  · rw [if_pos h5]
    subst h5
    obtain ⟨_, ⟨h0, _⟩, hx⟩ := shp_five hsh
    have hm := hx0 rfl
    obtain ⟨r, hr⟩ : ∃ r, raws subs = r := ⟨_, rfl⟩
    rw [hr] at h1 ⊢
    have hp : ∀ m : Int, 0 ≤ m → 0 ≤ m * (r : Int) := fun m hm => Int.mul_nonneg hm (by omega)
    have hq : ∀ m : Int, 1 ≤ m → (r : Int) ≤ m * (r : Int) := fun m hm => by
      have := Int.mul_le_mul_of_nonneg_right hm (by omega : (0 : Int) ≤ (r : Int))
      omega
    unfold repT
    by_cases h0r : r = 0
    · rw [if_pos h0r]; omega
    rw [if_neg h0r]
    by_cases hmm : mx = -1
    · rw [if_pos hmm]
      have := hp (mn.toNat : Int) (by omega)
      omega
    rw [if_neg hmm]
    by_cases hl : ((mn.toNat : Nat) : Int) < mx
    · rw [if_pos hl]
      have := hq mx (by omega)
      omega
    · rw [if_neg hl]
      have := hq (mn.toNat : Int) (by omega)
      omega
  · rw [if_neg h5]; exact h1
end Go.Proofs.Ytjmbimgofceanaa
