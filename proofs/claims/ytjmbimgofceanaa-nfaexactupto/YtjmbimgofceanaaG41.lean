/- The program's builder: its block; state, edge, free, onward, fork. -/
import Derived.Test.YtjmbimgofceanaaG27
import Derived.Test.YtjmbimgofceanaaG40
namespace Go.Proofs.Ytjmbimgofceanaa
open Go.RowKit
attribute [local go_sem ↓] Go.wp_at_zero Go.wp_at_succ

/-- THE TABLE OF WAYS. -/
def WB (w : World) (Y : Nat) : Prop := w.heap[Y]? = some (.cells #[.nilFunc, .func (.func 45) #[] #[], .func (.func 46) #[] #[], .func (.func 47) #[] #[], .func (.func 48) #[] #[], .func (.func 49) #[] #[], .func (.func 50) #[] #[], .func (.func 51) #[] #[]] 89 (0, 0))
/-- THE BUILDER's BLOCK. -/
def BB (w : World) (b0 B Y : Nat) (m : Mk) : Prop :=
  WB w Y ∧ ∃ V, w.heap[B]? = some (.cells #[.slice (some ⟨Y, 0, none⟩) 8 8, .int .i64 (m.S : Nat), V] 66 (0, 0)) ∧ RowE w b0 V m.es
section
variable {w w' : World} {b0 B Y : Nat} {m : Mk}
theorem WB.lt (h : WB w Y) : Y < w.heap.size := (Array.getElem?_eq_some_iff.1 h).1
theorem WB.ty (h : WB w Y) : TyB w 89 Y := ⟨_, _, h⟩
theorem BB.lt (h : BB w b0 B Y m) : B < w.heap.size := by
  obtain ⟨_, V, h1, _⟩ := h
  exact (Array.getElem?_eq_some_iff.1 h1).1
theorem BB.ty (h : BB w b0 B Y m) : TyB w 66 B := by
  obtain ⟨_, V, h1, _⟩ := h
  exact ⟨_, _, h1⟩
theorem BB.ne (h : BB w b0 B Y m) {A : Nat} {t : TypeId} (hA : TyB w t A) (ht : t ≠ 66) : A ≠ B := fun e => ht (TyB.ne (e ▸ hA) h.ty)
theorem BB.cells (h : BB w b0 B Y m) : ∃ o c, w.cell? ⟨B, 0, none⟩ = some (.slice (some ⟨Y, 0, none⟩) 8 8) ∧ w.cell? ⟨B, 1, none⟩ = some (.int .i64 (m.S : Nat)) ∧ w.cell? ⟨B, 2, none⟩ = some (.slice o m.es.length c) := by
  obtain ⟨_, V, h1, h2⟩ := h
  obtain ⟨a, c, rfl, _⟩ := h2.form
  exact ⟨a, c, by simp [World.cell?, h1], by simp [World.cell?, h1], by simp [World.cell?, h1]⟩
theorem BB.frozen (h : BB w b0 B Y m) (j : Nat) : w.frozen? ⟨B, j, none⟩ = false := by
  obtain ⟨_, V, h1, _⟩ := h
  simp [World.frozen?, h1]
theorem BB.later (h : BB w b0 B Y m) (hb : Below w.heap.size w w') : BB w' b0 B Y m := by
  have hlt := h.lt
  obtain ⟨hy, V, h1, h2⟩ := h
  exact ⟨(hb.block Y hy.lt).trans hy, V, (hb.block B hlt).trans h1, h2.keep (fun b _ hlt _ => hb.block b hlt)⟩
theorem BB.grown (h : BB w b0 B Y m) {r : Option Nat} (hg : w.grownBy w' r) (hr : ∀ k, r = some k → ∀ t, TyB w t k → t = 3) : BB w' b0 B Y m := by
  have hlt := h.lt
  have hty := h.ty
  obtain ⟨hy, V, h1, h2⟩ := h
  exact ⟨(hg.block Y hy.lt (fun e => absurd (hr Y e.symm _ hy.ty) (by decide))).trans hy, V, (hg.block B hlt (fun e => absurd (hr B e.symm _ hty) (by decide))).trans h1, h2.keep (fun b _ hlt ht => hg.block b hlt (fun e => absurd (hr b e.symm _ ht) (by decide)))⟩
end
theorem bstate_any (B b0 Y : Nat) (m : Mk) (w : World) (h : BB w b0 B Y m) (hS : m.S ≤ 1000000) : Calls Try.prog 78 #[.pointer (some ⟨B, 0, none⟩)] w fun e w' => e = .returned (.int .i64 (m.S : Nat)) ∧ BB w' b0 B Y m.st ∧ Fm b0 B w w' := by
  obtain ⟨o, c, c0, c1, c2⟩ := h.cells
  have f1 := h.frozen 1
  have HF : Hid (Fm b0 B w (w.setCell ⟨B, 1, none⟩ (.int .i64 ((m.S : Int) + 1)))) := Fm.set b0 B w 1 _
  have HM : Hid (BB (w.setCell ⟨B, 1, none⟩ (.int .i64 ((m.S : Int) + 1))) b0 B Y m.st) := by
    have hty := h.ty
    obtain ⟨hy, V, h1, h2⟩ := h
    refine ⟨(Below.heap_setCell w ⟨B, 1, none⟩ _ Y (fun e => by have e : Y = B := e; exact absurd (TyB.ne (e ▸ hy.ty) hty) (by decide))).trans hy, V, ?_, h2.keep (fun b _ hlt ht => Below.heap_setCell w ⟨B, 1, none⟩ _ b (fun e => by have e : b = B := e; exact absurd (TyB.ne (e ▸ ht) hty) (by decide)))⟩
    rw [heap_set h1]
    simp [Mk.st]
  have c1' : (w.setCell ⟨B, 1, none⟩ (.int .i64 ((m.S : Int) + 1))).cell? ⟨B, 1, none⟩ = some (.int .i64 ((m.S : Int) + 1)) := by
    obtain ⟨_, V, h1, _⟩ := HM.out
    simp [World.cell?, h1, Mk.st]
  clear h
  go_enter Try.func78, Try.ntmps78
  go_wp2
  go_ret
  exact ⟨ret_int (by omega), HM.out, HF.out⟩
/-- the builder's block behind an edge's own block, its list gone on by one, and laid down -/
theorem BB.put {w w3 : World} {b0 B Y : Nat} {m : Mk} {o : Option Addr} {c g cap n : Nat} {e : Eg} {ob : Obj} (hn : m.es.length = n) (h : BB w b0 B Y m) (hc : w.cell? ⟨B, 2, none⟩ = some (.slice o n c)) 
    (hr : RowE w3 b0 (.slice (some ⟨g, 0, none⟩) (n + 1) cap) (m.es ++ [e])) (hg : (w.alloc ob).grownBy w3 (Value.slice o n c).ownBlock) :
    BB (w3.setCell ⟨B, 2, none⟩ (.slice (some ⟨g, 0, none⟩) (n + 1) cap)) b0 B Y (m.ed e) ∧ Fm b0 B w (w3.setCell ⟨B, 2, none⟩ (.slice (some ⟨g, 0, none⟩) (n + 1) cap)) ∧ w3.cell? ⟨B, 2, none⟩ = some (.slice o n c) ∧ w3.frozen? ⟨B, 2, none⟩ = false := by
  subst hn
  have hlt := h.lt
  have hal : Below w.heap.size w (w.alloc ob) := (Below.refl _ _).alloc (Nat.le_refl _) _
  obtain ⟨hy, V, h1, h2⟩ := h
  have hV : V = .slice o m.es.length c := by
    simp only [World.cell?, h1] at hc
    simpa using hc
  subst hV
  have hob : ∀ k, (Value.slice o m.es.length c).ownBlock = some k → b0 ≤ k ∧ TyB (w.alloc ob) 57 k := fun k hk => by
    obtain ⟨q1, q2⟩ := h2.ty k hk
    obtain ⟨cc, z, q3⟩ := q2
    exact ⟨q1, TyB.same ⟨cc, z, q3⟩ (hal.block k (Array.getElem?_eq_some_iff.1 q3).1)⟩
  have hneB : (Value.slice o m.es.length c).ownBlock ≠ some B := fun e => absurd (TyB.ne (h2.ty B e).2 ⟨_, _, h1⟩) (by decide)
  have hneY : (Value.slice o m.es.length c).ownBlock ≠ some Y := fun e => absurd (TyB.ne (h2.ty Y e).2 hy.ty) (by decide)
  have h3 : w3.heap[B]? = some (.cells #[.slice (some ⟨Y, 0, none⟩) 8 8, .int .i64 (m.S : Nat), .slice o m.es.length c] 66 (0, 0)) := (hg.block B (Nat.lt_of_lt_of_le hlt hal.size) (fun e => hneB e.symm)).trans ((hal.block B hlt).trans h1)
  have hy3 : WB w3 Y := (hg.block Y (Nat.lt_of_lt_of_le hy.lt hal.size) (fun e => hneY e.symm)).trans ((hal.block Y hy.lt).trans hy)
  refine ⟨⟨?_, .slice (some ⟨g, 0, none⟩) (m.es.length + 1) cap, ?_, ?_⟩, ?_, by simp [World.cell?, h3], by simp [World.frozen?, h3]⟩
  · exact (Below.heap_setCell w3 ⟨B, 2, none⟩ _ Y (fun e => by have e : Y = B := e; exact absurd (TyB.ne (e ▸ hy3.ty) ⟨_, _, h3⟩) (by decide))).trans hy3
  · rw [heap_set h3]
    simp [Mk.ed]
  · have hr' : RowE w3 b0 (.slice (some ⟨g, 0, none⟩) (m.es.length + 1) cap) (m.ed e).es := hr
    exact hr'.keep (fun b _ hlt ht => Below.heap_setCell w3 ⟨B, 2, none⟩ _ b (fun e => by have e : b = B := e; exact absurd (TyB.ne (e ▸ ht) ⟨_, _, h3⟩) (by decide)))
  · exact ((Fm.of_below b0 B hal).grown hg hob).trans (Fm.set b0 B w3 2 _)
def Eg.val (e : Eg) : Value := .agg #[.int .i64 e.k, .int .i64 e.f, .int .i64 e.t, .int .u64 (Oct.word e.s 0 : Nat), .int .u64 (Oct.word e.s 1 : Nat), .int .u64 (Oct.word e.s 2 : Nat), .int .u64 (Oct.word e.s 3 : Nat)]
set_option maxRecDepth 4000 in
set_option maxHeartbeats 8000000 in
theorem bedge_any (B b0 Y : Nat) (m : Mk) (e : Eg) (w : World) (h : BB w b0 B Y m) (hb : b0 ≤ w.heap.size) (hl : m.es.length ≤ 1000000) : Calls Try.prog 79 #[.pointer (some ⟨B, 0, none⟩), e.val] w fun x w' => x = .returned (.tuple #[]) ∧ BB w' b0 B Y (m.ed e) ∧ Fm b0 B w w' := by
  obtain ⟨i0, hi, hz0, hz1, hz2⟩ := info_parts infoE
  have kk : Below w.heap.size w (w.alloc (.cells #[.int .i64 e.k, .int .i64 e.f, .int .i64 e.t, .int .u64 (Oct.word e.s 0 : Nat), .int .u64 (Oct.word e.s 1 : Nat), .int .u64 (Oct.word e.s 2 : Nat), .int .u64 (Oct.word e.s 3 : Nat)] 57)) := (Below.refl _ _).alloc (Nat.le_refl _) _
  have HM : Hid (BB (w.alloc (.cells #[.int .i64 e.k, .int .i64 e.f, .int .i64 e.t, .int .u64 (Oct.word e.s 0 : Nat), .int .u64 (Oct.word e.s 1 : Nat), .int .u64 (Oct.word e.s 2 : Nat), .int .u64 (Oct.word e.s 3 : Nat)] 57)) b0 B Y m) := h.later kk
  have HF : Hid (Fm b0 B w (w.alloc (.cells #[.int .i64 e.k, .int .i64 e.f, .int .i64 e.t, .int .u64 (Oct.word e.s 0 : Nat), .int .u64 (Oct.word e.s 1 : Nat), .int .u64 (Oct.word e.s 2 : Nat), .int .u64 (Oct.word e.s 3 : Nat)] 57))) := Fm.of_below b0 B kk
  have HZ : Hid (b0 ≤ (w.alloc (.cells #[.int .i64 e.k, .int .i64 e.f, .int .i64 e.t, .int .u64 (Oct.word e.s 0 : Nat), .int .u64 (Oct.word e.s 1 : Nat), .int .u64 (Oct.word e.s 2 : Nat), .int .u64 (Oct.word e.s 3 : Nat)] 57)).heap.size) := Nat.le_trans hb kk.size
  have HS : Hid ((w.alloc (.cells #[.int .i64 e.k, .int .i64 e.f, .int .i64 e.t, .int .u64 (Oct.word e.s 0 : Nat), .int .u64 (Oct.word e.s 1 : Nat), .int .u64 (Oct.word e.s 2 : Nat), .int .u64 (Oct.word e.s 3 : Nat)] 57)).heap[w.heap.size]? = some (.cells #[.int .i64 e.k, .int .i64 e.f, .int .i64 e.t, .int .u64 (Oct.word e.s 0 : Nat), .int .u64 (Oct.word e.s 1 : Nat), .int .u64 (Oct.word e.s 2 : Nat), .int .u64 (Oct.word e.s 3 : Nat)] 57 (0, 0))) := heap_alloc_new w _
  obtain ⟨w1, hw1⟩ : ∃ w1, w.alloc (.cells #[.int .i64 e.k, .int .i64 e.f, .int .i64 e.t, .int .u64 (Oct.word e.s 0 : Nat), .int .u64 (Oct.word e.s 1 : Nat), .int .u64 (Oct.word e.s 2 : Nat), .int .u64 (Oct.word e.s 3 : Nat)] 57) = w1 := ⟨_, rfl⟩
  rw [hw1] at HM HF HZ HS
  obtain ⟨X, hX⟩ : ∃ X, w.heap.size = X := ⟨_, rfl⟩
  rw [hX] at HS
  have HW1 : Hid (w.alloc (.cells #[.int .i64 e.k, .int .i64 e.f, .int .i64 e.t, .int .u64 (Oct.word e.s 0 : Nat), .int .u64 (Oct.word e.s 1 : Nat), .int .u64 (Oct.word e.s 2 : Nat), .int .u64 (Oct.word e.s 3 : Nat)] 57) = w1) := hw1
  have HXX : Hid (w.heap.size = X) := hX
  have HL : Hid (m.es.length ≤ 1000000) := hl
  clear hw1 hX kk h hb hl
  unfold Eg.val
  obtain ⟨k, f, t, s⟩ := e
  simp only at HW1 HS ⊢
  go_enter Try.func79, Try.ntmps79
  go_upto_region 1 with fail
  rw [HW1.out, HXX.out]
  clear HW1 HXX
  obtain ⟨o, c, c0, c1, c2⟩ := HM.out.cells
  have s0 : w1.cell? ⟨X, 0, none⟩ = some (.int .i64 k) := by simp [World.cell?, HS.out]
  have s1 : w1.cell? ⟨X, 1, none⟩ = some (.int .i64 f) := by simp [World.cell?, HS.out]
  have s2 : w1.cell? ⟨X, 2, none⟩ = some (.int .i64 t) := by simp [World.cell?, HS.out]
  have s3 : w1.cell? ⟨X, 3, none⟩ = some (.int .u64 (Oct.word s 0 : Nat)) := by simp [World.cell?, HS.out]
  have s4 : w1.cell? ⟨X, 4, none⟩ = some (.int .u64 (Oct.word s 1 : Nat)) := by simp [World.cell?, HS.out]
  have s5 : w1.cell? ⟨X, 5, none⟩ = some (.int .u64 (Oct.word s 2 : Nat)) := by simp [World.cell?, HS.out]
  have s6 : w1.cell? ⟨X, 6, none⟩ = some (.int .u64 (Oct.word s 3 : Nat)) := by simp [World.cell?, HS.out]
  have HRW : Hid (RowE w1 b0 (.slice o m.es.length c) m.es) := by
    obtain ⟨_, V, h1, h2⟩ := HM.out
    have hV : V = .slice o m.es.length c := by
      simp only [World.cell?, h1] at c2
      simpa using c2
    subst hV
    exact h2
  obtain ⟨n, hn⟩ : ∃ n, m.es.length = n := ⟨_, rfl⟩
  have HBL : Hid (B < w1.heap.size) := HM.out.lt
  have c2f := HM.out.frozen 2
  rw [hn] at c2
  have HC2 : Hid (w1.cell? ⟨B, 2, none⟩ = some (.slice o n c)) := c2
  have hz1c : ∀ ob : Obj, (w1.alloc ob).drew.cell? ⟨B, 2, none⟩ = some (.slice o n c) := fun ob => (World.cell?_of_block (w := w1) (Below.heap_alloc w1 ob B HBL.out)).trans c2
  have hz1f : ∀ ob : Obj, (w1.alloc ob).drew.frozen? ⟨B, 2, none⟩ = false := fun ob => (World.frozen?_of_block (w := w1) (Below.heap_alloc w1 ob B HBL.out)).trans c2f
  have HN : Hid (m.es.length = n) := hn
  have hn6 : n ≤ 1000000 := by have := HL.out; omega
  have HRN : Hid (w1.ownsRow b0 57 7 (.slice o n c) n (flatE m.es)) := by have := HRW.out; unfold RowE at this; rw [hn] at this; exact this
  clear hn
  go_region_law
    ((refine step_append_lies _ (by rfl) _ _ _ (by rfl) b0 57 i0 _ 7 56 Try.underlying35 hi hz0 hz1 hz2 rfl (by omega) (.slice o n c) n _ (by rfl) ((HRN.out.alloc _).drew)
        ⟨w1.heap.size, 0, none⟩ 1 1 (Eg.cells ⟨k, f, t, s⟩) (by rfl) (by rfl) (World.news_of_block (cs := #[.int .i64 k, .int .i64 f, .int .i64 t, .int .u64 (Oct.word s 0 : Nat), .int .u64 (Oct.word s 1 : Nat), .int .u64 (Oct.word s 2 : Nat), .int .u64 (Oct.word s 3 : Nat)]) (t := 57) (fr := (0, 0)) (heap_alloc_new w1 _)) (by have := flatE_one [⟨k, f, t, s⟩]; simpa [flatE] using this)
        (by omega) (by unfold maxLen; omega) (by omega) (by have := HZ.out; simp <;> omega) (w1.heap.size + 1) (by simp) ?_; intro g cap w3 hown hgrow hat hlt; have HO : Hid (RowE w3 b0 (.slice (some ⟨g, 0, none⟩) (n + 1) cap) (m.es ++ [⟨k, f, t, s⟩])) := rowE_snoc HN.out hown; have HG : Hid ((w1.alloc (.cells #[.int .i64 k, .int .i64 f, .int .i64 t, .int .u64 (Oct.word s 0 : Nat), .int .u64 (Oct.word s 1 : Nat), .int .u64 (Oct.word s 2 : Nat), .int .u64 (Oct.word s 3 : Nat)] 57)).grownBy w3 (Value.slice o n c).ownBlock) := ⟨hgrow.os, hgrow.tape, hgrow.output, hgrow.size, hgrow.block⟩; obtain ⟨q1, q2, z1, z2⟩ := BB.put HN.out HM.out HC2.out HO.out HG.out; have HQ1 : Hid (BB (w3.setCell ⟨B, 2, none⟩ (.slice (some ⟨g, 0, none⟩) (n + 1) cap)) b0 B Y (m.ed ⟨k, f, t, s⟩)) := q1; have HQ2 : Hid (Fm b0 B w1 (w3.setCell ⟨B, 2, none⟩ (.slice (some ⟨g, 0, none⟩) (n + 1) cap))) := q2; clear q1 q2 hown hgrow hat HO HG))
  all_goals
    go_wp2
    go_end0
    exact ⟨rfl, HQ1.out, HF.out.trans HQ2.out⟩
set_option maxRecDepth 4000 in
theorem bfree_any (B b0 Y : Nat) (m : Mk) (a b : Nat) (w : World) (h : BB w b0 B Y m) (hb : b0 ≤ w.heap.size) (hl : m.es.length ≤ 1000000) : Calls Try.prog 80 #[.pointer (some ⟨B, 0, none⟩), .int .i64 (a : Nat), .int .i64 (b : Nat)] w fun x w' => x = .returned (.tuple #[]) ∧ BB w' b0 B Y (m.fr a b) ∧ Fm b0 B w w' := by
  have HC : Hid (Calls Try.prog 79 #[.pointer (some ⟨B, 0, none⟩), Eg.val ⟨1, a, b, Oct.none⟩] w _) := bedge_any B b0 Y m ⟨1, a, b, Oct.none⟩ w h hb hl
  unfold Eg.val at HC
  simp only at HC
  rw [word0, word0, word0, word0] at HC
  clear h hb hl
  go_enter Try.func80, Try.ntmps80
  go_wp2_with fail
  refine HC.out.mono ?_
  rintro x w2 ⟨rfl, h1, h2⟩
  have H1 : Hid (BB w2 b0 B Y (m.fr a b)) := h1
  have H2 : Hid (Fm b0 B w w2) := h2
  clear h1 h2
  go_wp2
  go_end0
  exact ⟨rfl, H1.out, H2.out⟩
set_option maxRecDepth 4000 in
set_option maxHeartbeats 2000000 in
theorem onward_any (B b0 Y : Nat) (m : Mk) (k : Int) (a : Nat) (s : Oct.S) (w : World) (h : BB w b0 B Y m) (hb : b0 ≤ w.heap.size) (hS : m.S ≤ 1000000) (hl : m.es.length ≤ 1000000) : Calls Try.prog 68 #[.pointer (some ⟨B, 0, none⟩), .int .i64 k, .int .i64 (a : Nat), setV s] w fun e w' => e = .returned (.int .i64 (m.S : Nat)) ∧ BB w' b0 B Y (m.st.ed ⟨k, a, m.S, s⟩) ∧ Fm b0 B w w' := by
  have kk : Below w.heap.size w (w.alloc (.cells #[.int .u64 (Oct.word s 0 : Nat), .int .u64 (Oct.word s 1 : Nat), .int .u64 (Oct.word s 2 : Nat), .int .u64 (Oct.word s 3 : Nat)] 27)) := (Below.refl _ _).alloc (Nat.le_refl _) _
  have HM : Hid (BB (w.alloc (.cells #[.int .u64 (Oct.word s 0 : Nat), .int .u64 (Oct.word s 1 : Nat), .int .u64 (Oct.word s 2 : Nat), .int .u64 (Oct.word s 3 : Nat)] 27)) b0 B Y m) := h.later kk
  have HF : Hid (Fm b0 B w (w.alloc (.cells #[.int .u64 (Oct.word s 0 : Nat), .int .u64 (Oct.word s 1 : Nat), .int .u64 (Oct.word s 2 : Nat), .int .u64 (Oct.word s 3 : Nat)] 27))) := Fm.of_below b0 B kk
  have HZ : Hid (b0 ≤ (w.alloc (.cells #[.int .u64 (Oct.word s 0 : Nat), .int .u64 (Oct.word s 1 : Nat), .int .u64 (Oct.word s 2 : Nat), .int .u64 (Oct.word s 3 : Nat)] 27)).heap.size) := Nat.le_trans hb kk.size
  have HS : Hid ((w.alloc (.cells #[.int .u64 (Oct.word s 0 : Nat), .int .u64 (Oct.word s 1 : Nat), .int .u64 (Oct.word s 2 : Nat), .int .u64 (Oct.word s 3 : Nat)] 27)).heap[w.heap.size]? = some (.cells #[.int .u64 (Oct.word s 0 : Nat), .int .u64 (Oct.word s 1 : Nat), .int .u64 (Oct.word s 2 : Nat), .int .u64 (Oct.word s 3 : Nat)] 27 (0, 0))) := heap_alloc_new w _
  obtain ⟨w1, hw1⟩ : ∃ w1, w.alloc (.cells #[.int .u64 (Oct.word s 0 : Nat), .int .u64 (Oct.word s 1 : Nat), .int .u64 (Oct.word s 2 : Nat), .int .u64 (Oct.word s 3 : Nat)] 27) = w1 := ⟨_, rfl⟩
  rw [hw1] at HM HF HZ HS
  obtain ⟨X, hX⟩ : ∃ X, w.heap.size = X := ⟨_, rfl⟩
  rw [hX] at HS
  have HW1 : Hid (w.alloc (.cells #[.int .u64 (Oct.word s 0 : Nat), .int .u64 (Oct.word s 1 : Nat), .int .u64 (Oct.word s 2 : Nat), .int .u64 (Oct.word s 3 : Nat)] 27) = w1) := hw1
  have HXX : Hid (w.heap.size = X) := hX
  have HL : Hid (m.es.length ≤ 1000000) := hl
  clear hw1 hX kk h hb hl
  unfold setV
  go_enter Try.func68, Try.ntmps68
  go_upto_region 1 with fail
  rw [HW1.out, HXX.out]
  clear HW1 HXX
  go_wp2_with fail
  refine (bstate_any B b0 Y m w1 HM.out hS).mono ?_
  rintro x w2 ⟨rfl, h2, f2⟩
  have HM2 : Hid (BB w2 b0 B Y m.st) := h2
  have HF2 : Hid (Fm b0 B w w2) := HF.out.trans f2
  have HS2 : Hid (w2.heap[X]? = some (.cells #[.int .u64 (Oct.word s 0 : Nat), .int .u64 (Oct.word s 1 : Nat), .int .u64 (Oct.word s 2 : Nat), .int .u64 (Oct.word s 3 : Nat)] 27 (0, 0))) := f2.keep HS.out (HM.out.ne ⟨_, _, HS.out⟩ (by decide)) (by decide)
  have HZ2 : Hid (b0 ≤ w2.heap.size) := Nat.le_trans HZ.out f2.size
  clear h2 f2 HM HF HS HZ
  have s0 : w2.cell? ⟨X, 0, none⟩ = some (.int .u64 (Oct.word s 0 : Nat)) := by simp [World.cell?, HS2.out]
  have s1 : w2.cell? ⟨X, 1, none⟩ = some (.int .u64 (Oct.word s 1 : Nat)) := by simp [World.cell?, HS2.out]
  have s2 : w2.cell? ⟨X, 2, none⟩ = some (.int .u64 (Oct.word s 2 : Nat)) := by simp [World.cell?, HS2.out]
  have s3 : w2.cell? ⟨X, 3, none⟩ = some (.int .u64 (Oct.word s 3 : Nat)) := by simp [World.cell?, HS2.out]
  have HC : Hid (Calls Try.prog 79 #[.pointer (some ⟨B, 0, none⟩), Eg.val ⟨k, a, m.S, s⟩] w2 _) := bedge_any B b0 Y m.st ⟨k, a, m.S, s⟩ w2 HM2.out HZ2.out HL.out
  unfold Eg.val at HC
  simp only at HC
  go_wp2_with fail
  refine HC.out.mono ?_
  rintro x w3 ⟨rfl, h3, f3⟩
  have HM3 : Hid (BB w3 b0 B Y (m.st.ed ⟨k, a, m.S, s⟩)) := h3
  have HF3 : Hid (Fm b0 B w w3) := HF2.out.trans f3
  clear h3 f3 HM2 HF2 HS2 HZ2 HC s0 s1 s2 s3
  go_wp2
  go_ret
  exact ⟨rfl, HM3.out, HF3.out⟩
set_option maxRecDepth 4000 in
theorem fork_any (B b0 Y : Nat) (m : Mk) (a : Nat) (w : World) (h : BB w b0 B Y m) (hb : b0 ≤ w.heap.size) (hS : m.S ≤ 1000000) (hl : m.es.length ≤ 1000000) : Calls Try.prog 69 #[.pointer (some ⟨B, 0, none⟩), .int .i64 (a : Nat)] w fun e w' => e = .returned (.int .i64 (m.S : Nat)) ∧ BB w' b0 B Y (m.st.fr a m.S) ∧ Fm b0 B w w' := by
  have HC : Hid (Calls Try.prog 68 #[.pointer (some ⟨B, 0, none⟩), .int .i64 1, .int .i64 (a : Nat), setV Oct.none] w _) := onward_any B b0 Y m 1 a Oct.none w h hb hS hl
  unfold setV at HC
  rw [word0, word0, word0, word0] at HC
  clear h hb hl hS
  go_enter Try.func69, Try.ntmps69
  go_wp2_with fail
  refine HC.out.mono ?_
  rintro x w2 ⟨rfl, h1, h2⟩
  have H1 : Hid (BB w2 b0 B Y (m.st.fr a m.S)) := h1
  have H2 : Hid (Fm b0 B w w2) := h2
  clear h1 h2
  go_wp2
  go_ret
  exact ⟨rfl, H1.out, H2.out⟩
end Go.Proofs.Ytjmbimgofceanaa
