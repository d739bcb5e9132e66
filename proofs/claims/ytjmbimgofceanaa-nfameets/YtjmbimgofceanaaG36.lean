/- The program's builder: its block; state, edge, free, onward, fork. -/
import Derived.Test.YtjmbimgofceanaaG21
import Derived.Test.YtjmbimgofceanaaG35
import Derived.Test.YtjmbimgofceanaaG33
namespace Go.Proofs.Ytjmbimgofceanaa
open Go.RowKit
attribute [local go_sem ↓] Go.wp_at_zero Go.wp_at_succ

/-- THE TABLE OF WAYS. -/
def WB (w : World) (Y : Nat) : Prop := w.heap[Y]? = some (.cells #[.nilFunc, .func (.func 45) #[] #[], .func (.func 46) #[] #[], .func (.func 47) #[] #[], .func (.func 48) #[] #[], .func (.func 49) #[] #[], .func (.func 50) #[] #[], .func (.func 51) #[] #[]] 89 (0, 0))
/-- THE BUILDER's BLOCK. -/
def BB (w : World) (b0 B Y : Nat) (m : Mk) : Prop :=
  WB w Y ∧ ∃ V, w.heap[B]? = some (.cells #[.slice (some ⟨Y, 0, none⟩) 8 8, .int .i64 (m.S : Nat), V] 66 (0, 0)) ∧ RowE w b0 V m.es
section
variable {w w' : World} {b0 B Y : Nat} {m : Mk}
theorem WB.lt (h : WB w Y) : Y < w.heap.size := (Array.getElem?_eq_some_iff.1 h).1
theorem WB.ty (h : WB w Y) : TyB w 89 Y := ⟨_, _, h⟩
theorem BB.lt (h : BB w b0 B Y m) : B < w.heap.size := by
  obtain ⟨_, V, h1, _⟩ := h
  exact (Array.getElem?_eq_some_iff.1 h1).1
theorem BB.ty (h : BB w b0 B Y m) : TyB w 66 B := by
  obtain ⟨_, V, h1, _⟩ := h
  exact ⟨_, _, h1⟩
theorem BB.ne (h : BB w b0 B Y m) {A : Nat} {t : TypeId} (hA : TyB w t A) (ht : t ≠ 66) : A ≠ B := fun e => ht (TyB.ne (e ▸ hA) h.ty)
theorem BB.cells (h : BB w b0 B Y m) : ∃ o c, w.cell? ⟨B, 0, none⟩ = some (.slice (some ⟨Y, 0, none⟩) 8 8) ∧ w.cell? ⟨B, 1, none⟩ = some (.int .i64 (m.S : Nat)) ∧ w.cell? ⟨B, 2, none⟩ = some (.slice o m.es.length c) := by
  obtain ⟨_, V, h1, h2⟩ := h
  obtain ⟨a, c, rfl, _⟩ := h2.form
  exact ⟨a, c, by simp [World.cell?, h1], by simp [World.cell?, h1], by simp [World.cell?, h1]⟩
theorem BB.frozen (h : BB w b0 B Y m) (j : Nat) : w.frozen? ⟨B, j, none⟩ = false := by
  obtain ⟨_, V, h1, _⟩ := h
  simp [World.frozen?, h1]
theorem BB.later (h : BB w b0 B Y m) (hb : Below w.heap.size w w') : BB w' b0 B Y m := by
  have hlt := h.lt
  obtain ⟨hy, V, h1, h2⟩ := h
  exact ⟨(hb.block Y hy.lt).trans hy, V, (hb.block B hlt).trans h1, h2.keep (fun b _ hlt _ => hb.block b hlt)⟩
theorem BB.grown (h : BB w b0 B Y m) {r : Option Nat} (hg : w.grownBy w' r) (hr : ∀ k, r = some k → ∀ t, TyB w t k → t = 3) : BB w' b0 B Y m := by
  have hlt := h.lt
  have hty := h.ty
  obtain ⟨hy, V, h1, h2⟩ := h
  exact ⟨(hg.block Y hy.lt (fun e => absurd (hr Y e.symm _ hy.ty) (by decide))).trans hy, V, (hg.block B hlt (fun e => absurd (hr B e.symm _ hty) (by decide))).trans h1, h2.keep (fun b _ hlt ht => hg.block b hlt (fun e => absurd (hr b e.symm _ ht) (by decide)))⟩
end
theorem bstate_any (B b0 Y : Nat) (m : Mk) (w : World) (h : BB w b0 B Y m) (hS : m.S ≤ 1000000) : Calls Try.prog 78 #[.pointer (some ⟨B, 0, none⟩)] w fun e w' => e = .returned (.int .i64 (m.S : Nat)) ∧ BB w' b0 B Y m.st ∧ Fm b0 B w w' := by
  obtain ⟨o, c, c0, c1, c2⟩ := h.cells
  have f1 := h.frozen 1
  have HF : Hid (Fm b0 B w (w.setCell ⟨B, 1, none⟩ (.int .i64 ((m.S : Int) + 1)))) := Fm.set b0 B w 1 _
  have HM : Hid (BB (w.setCell ⟨B, 1, none⟩ (.int .i64 ((m.S : Int) + 1))) b0 B Y m.st) := by
    have hty := h.ty
    obtain ⟨hy, V, h1, h2⟩ := h
    refine ⟨(Below.heap_setCell w ⟨B, 1, none⟩ _ Y (fun e => by have e : Y = B := e; exact absurd (TyB.ne (e ▸ hy.ty) hty) (by decide))).trans hy, V, ?_, h2.keep (fun b _ hlt ht => Below.heap_setCell w ⟨B, 1, none⟩ _ b (fun e => by have e : b = B := e; exact absurd (TyB.ne (e ▸ ht) hty) (by decide)))⟩
    rw [heap_set h1]
    simp [Mk.st]
  have c1' : (w.setCell ⟨B, 1, none⟩ (.int .i64 ((m.S : Int) + 1))).cell? ⟨B, 1, none⟩ = some (.int .i64 ((m.S : Int) + 1)) := by
    obtain ⟨_, V, h1, _⟩ := HM.out
    simp [World.cell?, h1, Mk.st]
  clear h
  go_enter Try.func78, Try.ntmps78
  go_wp2
  go_ret
  exact ⟨ret_int (by omega), HM.out, HF.out⟩
/-- the builder's block behind an edge's own block, its list gone on by one, and laid down -/
theorem BB.put {w w3 : World} {b0 B Y : Nat} {m : Mk} {o : Option Addr} {c g cap n : Nat} {e : Eg} {ob : Obj} (hn : m.es.length = n) (h : BB w b0 B Y m) (hc : w.cell? ⟨B, 2, none⟩ = some (.slice o n c)) 
    (hr : RowE w3 b0 (.slice (some ⟨g, 0, none⟩) (n + 1) cap) (m.es ++ [e])) (hg : (w.alloc ob).grownBy w3 (Value.slice o n c).ownBlock) :
    BB (w3.setCell ⟨B, 2, none⟩ (.slice (some ⟨g, 0, none⟩) (n + 1) cap)) b0 B Y (m.ed e) ∧ Fm b0 B w (w3.setCell ⟨B, 2, none⟩ (.slice (some ⟨g, 0, none⟩) (n + 1) cap)) ∧ w3.cell? ⟨B, 2, none⟩ = some (.slice o n c) ∧ w3.frozen? ⟨B, 2, none⟩ = false := by
  subst hn
  have hlt := h.lt
  have hal : Below w.heap.size w (w.alloc ob) := (Below.refl _ _).alloc (Nat.le_refl _) _
  obtain ⟨hy, V, h1, h2⟩ := h
  have hV : V = .slice o m.es.length c := by
    simp only [World.cell?, h1] at hc
    simpa using hc
  subst hV
  have hob : ∀ k, (Value.slice o m.es.length c).ownBlock = some k → b0 ≤ k ∧ TyB (w.alloc ob) 57 k := fun k hk => by
    obtain ⟨q1, q2⟩ := h2.ty k hk
    obtain ⟨cc, z, q3⟩ := q2
    exact ⟨q1, TyB.same ⟨cc, z, q3⟩ (hal.block k (Array.getElem?_eq_some_iff.1 q3).1)⟩
  have hneB : (Value.slice o m.es.length c).ownBlock ≠ some B := fun e => absurd (TyB.ne (h2.ty B e).2 ⟨_, _, h1⟩) (by decide)
  have hneY : (Value.slice o m.es.length c).ownBlock ≠ some Y := fun e => absurd (TyB.ne (h2.ty Y e).2 hy.ty) (by decide)
  have h3 : w3.heap[B]? = some (.cells #[.slice (some ⟨Y, 0, none⟩) 8 8, .int .i64 (m.S : Nat), .slice o m.es.length c] 66 (0, 0)) := (hg.block B (Nat.lt_of_lt_of_le hlt hal.size) (fun e => hneB e.symm)).trans ((hal.block B hlt).trans h1)
  have hy3 : WB w3 Y := (hg.block Y (Nat.lt_of_lt_of_le hy.lt hal.size) (fun e => hneY e.symm)).trans ((hal.block Y hy.lt).trans hy)
  refine ⟨⟨?_, .slice (some ⟨g, 0, none⟩) (m.es.length + 1) cap, ?_, ?_⟩, ?_, by simp [World.cell?, h3], by simp [World.frozen?, h3]⟩
  · exact (Below.heap_setCell w3 ⟨B, 2, none⟩ _ Y (fun e => by have e : Y = B := e; exact absurd (TyB.ne (e ▸ hy3.ty) ⟨_, _, h3⟩) (by decide))).trans hy3
  · rw [heap_set h3]
    simp [Mk.ed]
  · have hr' : RowE w3 b0 (.slice (some ⟨g, 0, none⟩) (m.es.length + 1) cap) (m.ed e).es := hr
    exact hr'.keep (fun b _ hlt ht => Below.heap_setCell w3 ⟨B, 2, none⟩ _ b (fun e => by have e : b = B := e; exact absurd (TyB.ne (e ▸ ht) ⟨_, _, h3⟩) (by decide)))
  · exact ((Fm.of_below b0 B hal).grown hg hob).trans (Fm.set b0 B w3 2 _)
def Eg.val (e : Eg) : Value := .agg #[.int .i64 e.k, .int .i64 e.f, .int .i64 e.t, .int .u64 (Oct.word e.s 0 : Nat), .int .u64 (Oct.word e.s 1 : Nat), .int .u64 (Oct.word e.s 2 : Nat), .int .u64 (Oct.word e.s 3 : Nat)]
set_option maxRecDepth 4000 in
set_option maxHeartbeats 8000000 in
theorem bedge_any (B b0 Y : Nat) (m : Mk) (e : Eg) (w : World) (h : BB w b0 B Y m) (hb : b0 ≤ w.heap.size) (hl : m.es.length ≤ 1000000) : Calls Try.prog 79 #[.pointer (some ⟨B, 0, none⟩), e.val] w fun x w' => x = .returned (.tuple #[]) ∧ BB w' b0 B Y (m.ed e) ∧ Fm b0 B w w' := by
  obtain ⟨i0, hi, hz0, hz1, hz2⟩ := info_parts infoE
  have kk : Below w.heap.size w (w.alloc (.cells #[.int .i64 e.k, .int .i64 e.f, .int .i64 e.t, .int .u64 (Oct.word e.s 0 : Nat), .int .u64 (Oct.word e.s 1 : Nat), .int .u64 (Oct.word e.s 2 : Nat), .int .u64 (Oct.word e.s 3 : Nat)] 57)) := (Below.refl _ _).alloc (Nat.le_refl _) _
  have HM : Hid (BB (w.alloc (.cells #[.int .i64 e.k, .int .i64 e.f, .int .i64 e.t, .int .u64 (Oct.word e.s 0 : Nat), .int .u64 (Oct.word e.s 1 : Nat), .int .u64 (Oct.word e.s 2 : Nat), .int .u64 (Oct.word e.s 3 : Nat)] 57)) b0 B Y m) := h.later kk
  have HF : Hid (Fm b0 B w (w.alloc (.cells #[.int .i64 e.k, .int .i64 e.f, .int .i64 e.t, .int .u64 (Oct.word e.s 0 : Nat), .int .u64 (Oct.word e.s 1 : Nat), .int .u64 (Oct.word e.s 2 : Nat), .int .u64 (Oct.word e.s 3 : Nat)] 57))) := Fm.of_below b0 B kk
  have HZ : Hid (b0 ≤ (w.alloc (.cells #[.int .i64 e.k, .int .i64 e.f, .int .i64 e.t, .int .u64 (Oct.word e.s 0 : Nat), .int .u64 (Oct.word e.s 1 : Nat), .int .u64 (Oct.word e.s 2 : Nat), .int .u64 (Oct.word e.s 3 : Nat)] 57)).heap.size) := Nat.le_trans hb kk.size
  have HS : Hid ((w.alloc (.cells #[.int .i64 e.k, .int .i64 e.f, .int .i64 e.t, .int .u64 (Oct.word e.s 0 : Nat), .int .u64 (Oct.word e.s 1 : Nat), .int .u64 (Oct.word e.s 2 : Nat), .int .u64 (Oct.word e.s 3 : Nat)] 57)).heap[w.heap.size]? = some (.cells #[.int .i64 e.k, .int .i64 e.f, .int .i64 e.t, .int .u64 (Oct.word e.s 0 : Nat), .int .u64 (Oct.word e.s 1 : Nat), .int .u64 (Oct.word e.s 2 : Nat), .int .u64 (Oct.word e.s 3 : Nat)] 57 (0, 0))) := heap_alloc_new w _
  obtain ⟨w1, hw1⟩ : ∃ w1, w.alloc (.cells #[.int .i64 e.k, .int .i64 e.f, .int .i64 e.t, .int .u64 (Oct.word e.s 0 : Nat), .int .u64 (Oct.word e.s 1 : Nat), .int .u64 (Oct.word e.s 2 : Nat), .int .u64 (Oct.word e.s 3 : Nat)] 57) = w1 := ⟨_, rfl⟩
  rw [hw1] at HM HF HZ HS
  obtain ⟨X, hX⟩ : ∃ X, w.heap.size = X := ⟨_, rfl⟩
  rw [hX] at HS
  have HW1 : Hid (w.alloc (.cells #[.int .i64 e.k, .int .i64 e.f, .int .i64 e.t, .int .u64 (Oct.word e.s 0 : Nat), .int .u64 (Oct.word e.s 1 : Nat), .int .u64 (Oct.word e.s 2 : Nat), .int .u64 (Oct.word e.s 3 : Nat)] 57) = w1) := hw1
  have HXX : Hid (w.heap.size = X) := hX
  have HL : Hid (m.es.length ≤ 1000000) := hl
  clear hw1 hX kk h hb hl
  unfold Eg.val
  obtain ⟨k, f, t, s⟩ := e
  simp only at HW1 HS ⊢
  go_enter Try.func79, Try.ntmps79
  go_upto_region 1 with fail
  rw [HW1.out, HXX.out]
  clear HW1 HXX
  obtain ⟨o, c, c0, c1, c2⟩ := HM.out.cells
  have s0 : w1.cell? ⟨X, 0, none⟩ = some (.int .i64 k) := by simp [World.cell?, HS.out]
  have s1 : w1.cell? ⟨X, 1, none⟩ = some (.int .i64 f) := by simp [World.cell?, HS.out]
  have s2 : w1.cell? ⟨X, 2, none⟩ = some (.int .i64 t) := by simp [World.cell?, HS.out]
  have s3 : w1.cell? ⟨X, 3, none⟩ = some (.int .u64 (Oct.word s 0 : Nat)) := by simp [World.cell?, HS.out]
  have s4 : w1.cell? ⟨X, 4, none⟩ = some (.int .u64 (Oct.word s 1 : Nat)) := by simp [World.cell?, HS.out]
  have s5 : w1.cell? ⟨X, 5, none⟩ = some (.int .u64 (Oct.word s 2 : Nat)) := by simp [World.cell?, HS.out]
  have s6 : w1.cell? ⟨X, 6, none⟩ = some (.int .u64 (Oct.word s 3 : Nat)) := by simp [World.cell?, HS.out]
  have HRW : Hid (RowE w1 b0 (.slice o m.es.length c) m.es) := by
    obtain ⟨_, V, h1, h2⟩ := HM.out
    have hV : V = .slice o m.es.length c := by
      simp only [World.cell?, h1] at c2
      simpa using c2
    subst hV
    exact h2
  obtain ⟨n, hn⟩ : ∃ n, m.es.length = n := ⟨_, rfl⟩
  have HBL : Hid (B < w1.heap.size) := HM.out.lt
  have c2f := HM.out.frozen 2
  rw [hn] at c2
  have HC2 : Hid (w1.cell? ⟨B, 2, none⟩ = some (.slice o n c)) := c2
  have hz1c : ∀ ob : Obj, (w1.alloc ob).drew.cell? ⟨B, 2, none⟩ = some (.slice o n c) := fun ob => (World.cell?_of_block (w := w1) (Below.heap_alloc w1 ob B HBL.out)).trans c2
  have hz1f : ∀ ob : Obj, (w1.alloc ob).drew.frozen? ⟨B, 2, none⟩ = false := fun ob => (World.frozen?_of_block (w := w1) (Below.heap_alloc w1 ob B HBL.out)).trans c2f
  have HN : Hid (m.es.length = n) := hn
  have hn6 : n ≤ 1000000 := by have := HL.out; omega
  have HRN : Hid (w1.ownsRow b0 57 7 (.slice o n c) n (flatE m.es)) := by have := HRW.out; unfold RowE at this; rw [hn] at this; exact this
  clear hn
  go_region_law
    ((refine step_append_lies _ (by rfl) _ _ _ (by rfl) b0 57 i0 _ 7 56 Try.underlying35 hi hz0 hz1 hz2 rfl (by omega) (.slice o n c) n _ (by rfl) ((HRN.out.alloc _).drew)
        ⟨w1.heap.size, 0, none⟩ 1 1 (Eg.cells ⟨k, f, t, s⟩) (by rfl) (by rfl) (World.news_of_block (cs := #[.int .i64 k, .int .i64 f, .int .i64 t, .int .u64 (Oct.word s 0 : Nat), .int .u64 (Oct.word s 1 : Nat), .int .u64 (Oct.word s 2 : Nat), .int .u64 (Oct.word s 3 : Nat)]) (t := 57) (fr := (0, 0)) (heap_alloc_new w1 _)) (by have := flatE_one [⟨k, f, t, s⟩]; simpa [flatE] using this)
        (by omega) (by unfold maxLen; omega) (by omega) (by have := HZ.out; simp <;> omega) (w1.heap.size + 1) (by simp) ?_; intro g cap w3 hown hgrow hat hlt; have HO : Hid (RowE w3 b0 (.slice (some ⟨g, 0, none⟩) (n + 1) cap) (m.es ++ [⟨k, f, t, s⟩])) := rowE_snoc HN.out hown; have HG : Hid ((w1.alloc (.cells #[.int .i64 k, .int .i64 f, .int .i64 t, .int .u64 (Oct.word s 0 : Nat), .int .u64 (Oct.word s 1 : Nat), .int .u64 (Oct.word s 2 : Nat), .int .u64 (Oct.word s 3 : Nat)] 57)).grownBy w3 (Value.slice o n c).ownBlock) := ⟨hgrow.os, hgrow.tape, hgrow.output, hgrow.size, hgrow.block⟩; obtain ⟨q1, q2, z1, z2⟩ := BB.put HN.out HM.out HC2.out HO.out HG.out; have HQ1 : Hid (BB (w3.setCell ⟨B, 2, none⟩ (.slice (some ⟨g, 0, none⟩) (n + 1) cap)) b0 B Y (m.ed ⟨k, f, t, s⟩)) := q1; have HQ2 : Hid (Fm b0 B w1 (w3.setCell ⟨B, 2, none⟩ (.slice (some ⟨g, 0, none⟩) (n + 1) cap))) := q2; clear q1 q2 hown hgrow hat HO HG))
  all_goals
    go_wp2
    go_end0
    exact ⟨rfl, HQ1.out, HF.out.trans HQ2.out⟩
set_option maxRecDepth 4000 in
theorem bfree_any (B b0 Y : Nat) (m : Mk) (a b : Nat) (w : World) (h : BB w b0 B Y m) (hb : b0 ≤ w.heap.size) (hl : m.es.length ≤ 1000000) : Calls Try.prog 80 #[.pointer (some ⟨B, 0, none⟩), .int .i64 (a : Nat), .int .i64 (b : Nat)] w fun x w' => x = .returned (.tuple #[]) ∧ BB w' b0 B Y (m.fr a b) ∧ Fm b0 B w w' := by
  have HC : Hid (Calls Try.prog 79 #[.pointer (some ⟨B, 0, none⟩), Eg.val ⟨1, a, b, Oct.none⟩] w _) := bedge_any B b0 Y m ⟨1, a, b, Oct.none⟩ w h hb hl
  unfold Eg.val at HC
  simp only at HC
  rw [word0, word0, word0, word0] at HC
  clear h hb hl
  go_enter Try.func80, Try.ntmps80
  go_wp2_with fail
  refine HC.out.mono ?_
  rintro x w2 ⟨rfl, h1, h2⟩
  have H1 : Hid (BB w2 b0 B Y (m.fr a b)) := h1
  have H2 : Hid (Fm b0 B w w2) := h2
  clear h1 h2
  go_wp2
  go_end0
  exact ⟨rfl, H1.out, H2.out⟩
set_option maxRecDepth 4000 in
set_option maxHeartbeats 2000000 in
theorem onward_any (B b0 Y : Nat) (m : Mk) (k : Int) (a : Nat) (s : Oct.S) (w : World) (h : BB w b0 B Y m) (hb : b0 ≤ w.heap.size) (hS : m.S ≤ 1000000) (hl : m.es.length ≤ 1000000) : Calls Try.prog 68 #[.pointer (some ⟨B, 0, none⟩), .int .i64 k, .int .i64 (a : Nat), setV s] w fun e w' => e = .returned (.int .i64 (m.S : Nat)) ∧ BB w' b0 B Y (m.st.ed ⟨k, a, m.S, s⟩) ∧ Fm b0 B w w' := by
  have kk : Below w.heap.size w (w.alloc (.cells #[.int .u64 (Oct.word s 0 : Nat), .int .u64 (Oct.word s 1 : Nat), .int .u64 (Oct.word s 2 : Nat), .int .u64 (Oct.word s 3 : Nat)] 27)) := (Below.refl _ _).alloc (Nat.le_refl _) _
  have HM : Hid (BB (w.alloc (.cells #[.int .u64 (Oct.word s 0 : Nat), .int .u64 (Oct.word s 1 : Nat), .int .u64 (Oct.word s 2 : Nat), .int .u64 (Oct.word s 3 : Nat)] 27)) b0 B Y m) := h.later kk
  have HF : Hid (Fm b0 B w (w.alloc (.cells #[.int .u64 (Oct.word s 0 : Nat), .int .u64 (Oct.word s 1 : Nat), .int .u64 (Oct.word s 2 : Nat), .int .u64 (Oct.word s 3 : Nat)] 27))) := Fm.of_below b0 B kk
  have HZ : Hid (b0 ≤ (w.alloc (.cells #[.int .u64 (Oct.word s 0 : Nat), .int .u64 (Oct.word s 1 : Nat), .int .u64 (Oct.word s 2 : Nat), .int .u64 (Oct.word s 3 : Nat)] 27)).heap.size) := Nat.le_trans hb kk.size
  have HS : Hid ((w.alloc (.cells #[.int .u64 (Oct.word s 0 : Nat), .int .u64 (Oct.word s 1 : Nat), .int .u64 (Oct.word s 2 : Nat), .int .u64 (Oct.word s 3 : Nat)] 27)).heap[w.heap.size]? = some (.cells #[.int .u64 (Oct.word s 0 : Nat), .int .u64 (Oct.word s 1 : Nat), .int .u64 (Oct.word s 2 : Nat), .int .u64 (Oct.word s 3 : Nat)] 27 (0, 0))) := heap_alloc_new w _
  obtain ⟨w1, hw1⟩ : ∃ w1, w.alloc (.cells #[.int .u64 (Oct.word s 0 : Nat), .int .u64 (Oct.word s 1 : Nat), .int .u64 (Oct.word s 2 : Nat), .int .u64 (Oct.word s 3 : Nat)] 27) = w1 := ⟨_, rfl⟩
  rw [hw1] at HM HF HZ HS
  obtain ⟨X, hX⟩ : ∃ X, w.heap.size = X := ⟨_, rfl⟩
  rw [hX] at HS
  have HW1 : Hid (w.alloc (.cells #[.int .u64 (Oct.word s 0 : Nat), .int .u64 (Oct.word s 1 : Nat), .int .u64 (Oct.word s 2 : Nat), .int .u64 (Oct.word s 3 : Nat)] 27) = w1) := hw1
  have HXX : Hid (w.heap.size = X) := hX
  have HL : Hid (m.es.length ≤ 1000000) := hl
  clear hw1 hX kk h hb hl
  unfold setV
  go_enter Try.func68, Try.ntmps68
  go_upto_region 1 with fail
  rw [HW1.out, HXX.out]
  clear HW1 HXX
  go_wp2_with fail
  refine (bstate_any B b0 Y m w1 HM.out hS).mono ?_
  rintro x w2 ⟨rfl, h2, f2⟩
  have HM2 : Hid (BB w2 b0 B Y m.st) := h2
  have HF2 : Hid (Fm b0 B w w2) := HF.out.trans f2
  have HS2 : Hid (w2.heap[X]? = some (.cells #[.int .u64 (Oct.word s 0 : Nat), .int .u64 (Oct.word s 1 : Nat), .int .u64 (Oct.word s 2 : Nat), .int .u64 (Oct.word s 3 : Nat)] 27 (0, 0))) := f2.keep HS.out (HM.out.ne ⟨_, _, HS.out⟩ (by decide)) (by decide)
  have HZ2 : Hid (b0 ≤ w2.heap.size) := Nat.le_trans HZ.out f2.size
  clear h2 f2 HM HF HS HZ
  have s0 : w2.cell? ⟨X, 0, none⟩ = some (.int .u64 (Oct.word s 0 : Nat)) := by simp [World.cell?, HS2.out]
  have s1 : w2.cell? ⟨X, 1, none⟩ = some (.int .u64 (Oct.word s 1 : Nat)) := by simp [World.cell?, HS2.out]
  have s2 : w2.cell? ⟨X, 2, none⟩ = some (.int .u64 (Oct.word s 2 : Nat)) := by simp [World.cell?, HS2.out]
  have s3 : w2.cell? ⟨X, 3, none⟩ = some (.int .u64 (Oct.word s 3 : Nat)) := by simp [World.cell?, HS2.out]
  have HC : Hid (Calls Try.prog 79 #[.pointer (some ⟨B, 0, none⟩), Eg.val ⟨k, a, m.S, s⟩] w2 _) := bedge_any B b0 Y m.st ⟨k, a, m.S, s⟩ w2 HM2.out HZ2.out HL.out
  unfold Eg.val at HC
  simp only at HC
  go_wp2_with fail
  refine HC.out.mono ?_
  rintro x w3 ⟨rfl, h3, f3⟩
  have HM3 : Hid (BB w3 b0 B Y (m.st.ed ⟨k, a, m.S, s⟩)) := h3
  have HF3 : Hid (Fm b0 B w w3) := HF2.out.trans f3
  clear h3 f3 HM2 HF2 HS2 HZ2 HC s0 s1 s2 s3
  go_wp2
  go_ret
  exact ⟨rfl, HM3.out, HF3.out⟩
set_option maxRecDepth 4000 in
theorem fork_any (B b0 Y : Nat) (m : Mk) (a : Nat) (w : World) (h : BB w b0 B Y m) (hb : b0 ≤ w.heap.size) (hS : m.S ≤ 1000000) (hl : m.es.length ≤ 1000000) : Calls Try.prog 69 #[.pointer (some ⟨B, 0, none⟩), .int .i64 (a : Nat)] w fun e w' => e = .returned (.int .i64 (m.S : Nat)) ∧ BB w' b0 B Y (m.st.fr a m.S) ∧ Fm b0 B w w' := by
  have HC : Hid (Calls Try.prog 68 #[.pointer (some ⟨B, 0, none⟩), .int .i64 1, .int .i64 (a : Nat), setV Oct.none] w _) := onward_any B b0 Y m 1 a Oct.none w h hb hS hl
  unfold setV at HC
  rw [word0, word0, word0, word0] at HC
  clear h hb hl hS
  go_enter Try.func69, Try.ntmps69
  go_wp2_with fail
  refine HC.out.mono ?_
  rintro x w2 ⟨rfl, h1, h2⟩
  have H1 : Hid (BB w2 b0 B Y (m.st.fr a m.S)) := h1
  have H2 : Hid (Fm b0 B w w2) := h2
  clear h1 h2
  go_wp2
  go_ret
  exact ⟨rfl, H1.out, H2.out⟩
end Go.Proofs.Ytjmbimgofceanaa

/- The program's fits and Right. -/
namespace Go.Proofs.Ytjmbimgofceanaa
open Go.RowKit
attribute [local go_sem ↓] Go.wp_at_zero Go.wp_at_succ

set_option maxRecDepth 4000 in
set_option maxHeartbeats 8000000 in
theorem fits_any (S : Int) (e : Eg) (w : World) : Calls Try.prog 33 #[e.val, .int .i64 S] w fun r w' => r = .returned (.bool (okE S e)) ∧ Below w.heap.size w w' := by
  obtain ⟨w0, hw0⟩ : ∃ w0, w0 = w.alloc (.cells #[.int .i64 e.k, .int .i64 e.f, .int .i64 e.t, .int .u64 (Oct.word e.s 0 : Nat), .int .u64 (Oct.word e.s 1 : Nat), .int .u64 (Oct.word e.s 2 : Nat), .int .u64 (Oct.word e.s 3 : Nat)] 57) := ⟨_, rfl⟩
  obtain ⟨w1, hw1⟩ : ∃ w1, w1 = w0.alloc (.cells #[.int .u64 0, .int .u64 0, .int .u64 0, .int .u64 0] 27) := ⟨_, rfl⟩
  have z0 : w0.heap.size = w.heap.size + 1 := by rw [hw0]; simp
  have k0 : Below w.heap.size w w0 := by rw [hw0]; exact (Below.refl _ _).alloc (Nat.le_refl _) _
  have k1 : Below w0.heap.size w0 w1 := by rw [hw1]; exact (Below.refl _ _).alloc (Nat.le_refl _) _
  have HN : Hid (w1.heap[w.heap.size]? = some (.cells #[.int .i64 e.k, .int .i64 e.f, .int .i64 e.t, .int .u64 (Oct.word e.s 0 : Nat), .int .u64 (Oct.word e.s 1 : Nat), .int .u64 (Oct.word e.s 2 : Nat), .int .u64 (Oct.word e.s 3 : Nat)] 57 (0, 0))) := by
    have hb0 : w0.heap[w.heap.size]? = some (.cells #[.int .i64 e.k, .int .i64 e.f, .int .i64 e.t, .int .u64 (Oct.word e.s 0 : Nat), .int .u64 (Oct.word e.s 1 : Nat), .int .u64 (Oct.word e.s 2 : Nat), .int .u64 (Oct.word e.s 3 : Nat)] 57 (0, 0)) := by rw [hw0]; exact heap_alloc_new w _
    exact (k1.block _ (by omega)).trans hb0
  have HZ : Hid (SB w1 (w.heap.size + 1) Oct.none) := by have hb1 : SB w1 w0.heap.size Oct.none := (by rw [hw1]; exact sb_zero w0); rw [z0] at hb1; exact hb1
  have HB : Hid (Below w.heap.size w w1) := below_step k0 k1
  have HW1 : Hid (w0.alloc (.cells #[.int .u64 0, .int .u64 0, .int .u64 0, .int .u64 0] 27) = w1) := hw1.symm
  have HW0 : Hid (w.alloc (.cells #[.int .i64 e.k, .int .i64 e.f, .int .i64 e.t, .int .u64 (Oct.word e.s 0 : Nat), .int .u64 (Oct.word e.s 1 : Nat), .int .u64 (Oct.word e.s 2 : Nat), .int .u64 (Oct.word e.s 3 : Nat)] 57) = w0) := hw0.symm
  obtain ⟨A, hA⟩ : ∃ A, A = w.heap.size := ⟨_, rfl⟩
  obtain ⟨Z, hZ⟩ : ∃ Z, Z = w.heap.size + 1 := ⟨_, rfl⟩
  rw [← hA] at HN
  rw [← hZ] at HZ
  have HAA : Hid (A = w.heap.size) := hA
  have HZZ : Hid (Z = w.heap.size + 1) := hZ
  clear hw0 hw1 z0 k0 k1 hA hZ
  obtain ⟨k, f, t, s⟩ := e
  simp only at HN HW0
  have b0 : w1.cell? ⟨A, 0, none⟩ = some (.int .i64 k) := by simp [World.cell?, HN.out]
  have b1 : w1.cell? ⟨A, 1, none⟩ = some (.int .i64 f) := by simp [World.cell?, HN.out]
  have b2 : w1.cell? ⟨A, 2, none⟩ = some (.int .i64 t) := by simp [World.cell?, HN.out]
  have b3 : w1.cell? ⟨A, 3, none⟩ = some (.int .u64 (Oct.word s 0 : Nat)) := by simp [World.cell?, HN.out]
  have b4 : w1.cell? ⟨A, 4, none⟩ = some (.int .u64 (Oct.word s 1 : Nat)) := by simp [World.cell?, HN.out]
  have b5 : w1.cell? ⟨A, 5, none⟩ = some (.int .u64 (Oct.word s 2 : Nat)) := by simp [World.cell?, HN.out]
  have b6 : w1.cell? ⟨A, 6, none⟩ = some (.int .u64 (Oct.word s 3 : Nat)) := by simp [World.cell?, HN.out]
  obtain ⟨q0, q1, q2, q3⟩ := HZ.out.cells
  rw [word0] at q0 q1 q2 q3
  obtain ⟨z, hz⟩ : ∃ z, noSet s = z := ⟨_, rfl⟩
  have HEQ : Hid (∀ u, (Op.equalIn 10000 27 (.agg #[.int .u64 (Oct.word s 0 : Nat), .int .u64 (Oct.word s 1 : Nat), .int .u64 (Oct.word s 2 : Nat), .int .u64 (Oct.word s 3 : Nat)]) (.agg #[.int .u64 0, .int .u64 0, .int .u64 0, .int .u64 0])).run Try.prog u = .ok z u) := fun u => by rw [← hz]; exact eq4_zero _ _ _ _ u
  have HNS : Hid (noSet s = z) := hz
  obtain ⟨ok, hok⟩ : ∃ ok, okE S ⟨k, f, t, s⟩ = ok := ⟨_, rfl⟩
  have HOK : Hid (okE S ⟨k, f, t, s⟩ = ok) := hok
  rw [hok]
  clear hok
  unfold Eg.val
  simp only
  go_enter Try.func33, Try.ntmps33
  go_upto_region 2 with fail
  rw [HW0.out, HW1.out, ← HZZ.out, ← HAA.out]
  clear HW0 HW1 hz
  have heq := HEQ.out
  by_cases h2 : k = 2
  · subst h2
    by_cases hf0 : 0 ≤ f
    case neg =>
      have HX : Hid (ok = false) := by show _ = _; rw [← HOK.out]; unfold okE; simp; omega
      have g0 : ¬ (0 : Int) ≤ f := hf0
      go_wp2
      go_ret
      exact ⟨by rw [HX.out]; rfl, HB.out⟩
    by_cases hf1 : f < S
    case neg =>
      have HX : Hid (ok = false) := by show _ = _; rw [← HOK.out]; unfold okE; simp; omega
      go_wp2
      go_ret
      exact ⟨by rw [HX.out]; rfl, HB.out⟩
    by_cases ht0 : 0 ≤ t
    case neg =>
      have HX : Hid (ok = false) := by show _ = _; rw [← HOK.out]; unfold okE; simp; omega
      go_wp2
      go_ret
      exact ⟨by rw [HX.out]; rfl, HB.out⟩
    by_cases ht1 : t < S
    case neg =>
      have HX : Hid (ok = false) := by show _ = _; rw [← HOK.out]; unfold okE; simp; omega
      go_wp2
      go_ret
      exact ⟨by rw [HX.out]; rfl, HB.out⟩
    have HX : Hid (ok = true) := by show _ = _; rw [← HOK.out]; unfold okE; simp; omega
    go_wp2
    go_ret
    exact ⟨by rw [HX.out]; rfl, HB.out⟩
  have g2 : (k == 2) = false := by simp [h2]
  by_cases hk : k = 1 ∨ k = 3 ∨ k = 4
  case neg =>
    have g1 : (k == 1) = false := by simp; omega
    have g3 : (k == 3) = false := by simp; omega
    have g4 : (k == 4) = false := by simp; omega
    have HX : Hid (ok = false) := by show _ = _; rw [← HOK.out]; unfold okE; simp; omega
    go_wp2
    go_ret
    exact ⟨by rw [HX.out]; rfl, HB.out⟩
  cases z with
  | false =>
    have HX : Hid (ok = false) := by show _ = _; rw [← HOK.out]; unfold okE; simp [HNS.out]; omega
    rcases hk with rfl | rfl | rfl
    all_goals
      go_wp2
      go_ret
      exact ⟨by rw [HX.out]; rfl, HB.out⟩
  | true =>
    rcases hk with rfl | rfl | rfl
    all_goals
      by_cases hf0 : 0 ≤ f
      case neg =>
        have HX : Hid (ok = false) := by show _ = _; rw [← HOK.out]; unfold okE; simp; omega
        have g0 : ¬ (0 : Int) ≤ f := hf0
        go_wp2
        go_ret
        exact ⟨by rw [HX.out]; rfl, HB.out⟩
      by_cases hf1 : f < S
      case neg =>
        have HX : Hid (ok = false) := by show _ = _; rw [← HOK.out]; unfold okE; simp; omega
        go_wp2
        go_ret
        exact ⟨by rw [HX.out]; rfl, HB.out⟩
      by_cases ht0 : 0 ≤ t
      case neg =>
        have HX : Hid (ok = false) := by show _ = _; rw [← HOK.out]; unfold okE; simp; omega
        go_wp2
        go_ret
        exact ⟨by rw [HX.out]; rfl, HB.out⟩
      by_cases ht1 : t < S
      case neg =>
        have HX : Hid (ok = false) := by show _ = _; rw [← HOK.out]; unfold okE; simp; omega
        go_wp2
        go_ret
        exact ⟨by rw [HX.out]; rfl, HB.out⟩
      have HX : Hid (ok = true) := by show _ = _; rw [← HOK.out]; unfold okE; simp [HNS.out]; omega
      go_wp2
      go_ret
      exact ⟨by rw [HX.out]; rfl, HB.out⟩
set_option maxRecDepth 4000 in
set_option maxHeartbeats 4000000 in
theorem right1_any (S : Int) (A : Nat) (e : Eg) (w : World) (hA : w.cell? ⟨A, 0, none⟩ = some (.int .i64 S)) : Calls Try.prog 32 #[e.val, .pointer (some ⟨A, 0, none⟩)] w fun r w' => r = .returned (.bool (!okE S e)) ∧ Below w.heap.size w w' := by
  have kk : Below w.heap.size w (w.alloc (.cells #[.int .i64 e.k, .int .i64 e.f, .int .i64 e.t, .int .u64 (Oct.word e.s 0 : Nat), .int .u64 (Oct.word e.s 1 : Nat), .int .u64 (Oct.word e.s 2 : Nat), .int .u64 (Oct.word e.s 3 : Nat)] 57)) := (Below.refl _ _).alloc (Nat.le_refl _) _
  have HB : Hid (Below w.heap.size w (w.alloc (.cells #[.int .i64 e.k, .int .i64 e.f, .int .i64 e.t, .int .u64 (Oct.word e.s 0 : Nat), .int .u64 (Oct.word e.s 1 : Nat), .int .u64 (Oct.word e.s 2 : Nat), .int .u64 (Oct.word e.s 3 : Nat)] 57))) := kk
  have HN : Hid ((w.alloc (.cells #[.int .i64 e.k, .int .i64 e.f, .int .i64 e.t, .int .u64 (Oct.word e.s 0 : Nat), .int .u64 (Oct.word e.s 1 : Nat), .int .u64 (Oct.word e.s 2 : Nat), .int .u64 (Oct.word e.s 3 : Nat)] 57)).heap[w.heap.size]? = some (.cells #[.int .i64 e.k, .int .i64 e.f, .int .i64 e.t, .int .u64 (Oct.word e.s 0 : Nat), .int .u64 (Oct.word e.s 1 : Nat), .int .u64 (Oct.word e.s 2 : Nat), .int .u64 (Oct.word e.s 3 : Nat)] 57 (0, 0))) := heap_alloc_new w _
  have a0 : (w.alloc (.cells #[.int .i64 e.k, .int .i64 e.f, .int .i64 e.t, .int .u64 (Oct.word e.s 0 : Nat), .int .u64 (Oct.word e.s 1 : Nat), .int .u64 (Oct.word e.s 2 : Nat), .int .u64 (Oct.word e.s 3 : Nat)] 57)).cell? ⟨A, 0, none⟩ = some (.int .i64 S) := (World.cell?_of_block (w := w) (kk.block A (lt_of_cell hA))).trans hA
  obtain ⟨w1, hw1⟩ : ∃ w1, w.alloc (.cells #[.int .i64 e.k, .int .i64 e.f, .int .i64 e.t, .int .u64 (Oct.word e.s 0 : Nat), .int .u64 (Oct.word e.s 1 : Nat), .int .u64 (Oct.word e.s 2 : Nat), .int .u64 (Oct.word e.s 3 : Nat)] 57) = w1 := ⟨_, rfl⟩
  rw [hw1] at HB HN a0
  obtain ⟨E, hE⟩ : ∃ E, w.heap.size = E := ⟨_, rfl⟩
  rw [hE] at HN
  have HW1 : Hid (w.alloc (.cells #[.int .i64 e.k, .int .i64 e.f, .int .i64 e.t, .int .u64 (Oct.word e.s 0 : Nat), .int .u64 (Oct.word e.s 1 : Nat), .int .u64 (Oct.word e.s 2 : Nat), .int .u64 (Oct.word e.s 3 : Nat)] 57) = w1) := hw1
  have HEE : Hid (w.heap.size = E) := hE
  have HC : Hid (Calls Try.prog 33 #[e.val, .int .i64 S] w1 _) := fits_any S e w1
  clear hw1 hE kk hA
  obtain ⟨ok, hok⟩ : ∃ ok, okE S e = ok := ⟨_, rfl⟩
  rw [hok] at HC ⊢
  clear hok
  obtain ⟨k, f, t, s⟩ := e
  simp only at HN HW1
  have b0 : w1.cell? ⟨E, 0, none⟩ = some (.int .i64 k) := by simp [World.cell?, HN.out]
  have b1 : w1.cell? ⟨E, 1, none⟩ = some (.int .i64 f) := by simp [World.cell?, HN.out]
  have b2 : w1.cell? ⟨E, 2, none⟩ = some (.int .i64 t) := by simp [World.cell?, HN.out]
  have b3 : w1.cell? ⟨E, 3, none⟩ = some (.int .u64 (Oct.word s 0 : Nat)) := by simp [World.cell?, HN.out]
  have b4 : w1.cell? ⟨E, 4, none⟩ = some (.int .u64 (Oct.word s 1 : Nat)) := by simp [World.cell?, HN.out]
  have b5 : w1.cell? ⟨E, 5, none⟩ = some (.int .u64 (Oct.word s 2 : Nat)) := by simp [World.cell?, HN.out]
  have b6 : w1.cell? ⟨E, 6, none⟩ = some (.int .u64 (Oct.word s 3 : Nat)) := by simp [World.cell?, HN.out]
  unfold Eg.val at HC
  unfold Eg.val
  simp only at HC ⊢
  go_enter Try.func32, Try.ntmps32
  go_upto_region 1 with fail
  rw [HW1.out, HEE.out]
  clear HW1
  go_wp2_with fail
  refine HC.out.mono ?_
  rintro r w2 ⟨rfl, k2⟩
  have HB2 : Hid (Below w.heap.size w w2) := below_step HB.out k2
  clear k2 HC
  go_wp2
  go_ret
  exact ⟨rfl, HB2.out⟩
set_option maxRecDepth 4000 in
set_option maxHeartbeats 8000000 in
theorem indexE_any {X : Nat → Prop} (S : Int) (A : Nat) (es : List Eg) (a : Option Addr) (n c : Nat) (w : World) (hn : es.length = n) (hm : n ≤ 10000000) (hE : EAt X w a es) (hA : w.cell? ⟨A, 0, none⟩ = some (.int .i64 S)) : Calls Try.prog 54 #[.slice a n c, .func (.func 32) #[] #[.pointer (some ⟨A, 0, none⟩)]] w fun r w' => ∃ i : Int, r = .returned (.int .i64 i) ∧ decide (0 ≤ i) = (!es.all (okE S)) ∧ Below w.heap.size w w' := by
  have HE : Hid (EAt X w a es) := hE
  have HN : Hid (es.length = n) := hn
  have HA : Hid (w.cell? ⟨A, 0, none⟩ = some (.int .i64 S)) := hA
  clear hE hn hA
  go_enter Try.func54, Try.ntmps54
  go_wp2_with fail
  go_loopw [8] (fun i u => ∃ j : Nat, i = .int .i64 (j : Nat) ∧ j ≤ n ∧ Hid ((es.take j).all (okE S) = true) ∧ Hid (Below w.heap.size w u)) (fun i _ => n - (intOf i).toNat)
  case atStart => exact ⟨0, rfl, Nat.zero_le _, by show _ = _; simp, Below.refl _ _⟩
  case round =>
    obtain ⟨j, rfl, hjn, HAL, HB⟩ := hrel
    by_cases hlt : j < n
    · have hlt' : (j : Int) < (n : Int) := by omega
      obtain ⟨e, he⟩ : ∃ e, es[j]? = some e := ⟨_, List.getElem?_eq_getElem (by rw [HN.out]; exact hlt)⟩
      have hrow := (HE.out.keep (w' := wr) (Y := X) (fun _ h _ => h) (fun b _ hlt => HB.out.block b hlt)).nth he
      obtain ⟨g, off, rfl, e0, e1, e2, e3, e4, e5, e6⟩ := hrow
      have HC : Hid (Calls Try.prog 32 #[e.val, .pointer (some ⟨A, 0, none⟩)] wr _) := right1_any S A e wr ((World.cell?_of_block (w := w) (HB.out.block A (lt_of_cell HA.out))).trans HA.out)
      have HTA : Hid ((es.take (j + 1)).all (okE S) = okE S e) := by
        show _ = _
        rw [List.take_add_one, he, List.all_append, HAL.out]
        simp
      have HNO : Hid (okE S e = false → es.all (okE S) = false) := fun h => by
        rw [List.all_eq_false]
        exact ⟨e, List.mem_of_getElem? he, by simp [h]⟩
      obtain ⟨ok, hok⟩ : ∃ ok, okE S e = ok := ⟨_, rfl⟩
      rw [hok] at HC HTA HNO
      clear hok he
      unfold Eg.val at HC
      go_wp2_with fail
      refine HC.out.mono ?_
      rintro r w2 ⟨rfl, k2⟩
      have HB2 : Hid (Below w.heap.size w w2) := below_step HB.out k2
      clear k2 HC HB e0 e1 e2 e3 e4 e5 e6
      cases ok with
      | true =>
        go_wp2
        go_roundw
        case rel => exact ⟨j + 1, by go_num, by omega, HTA, HB2⟩
        case measure => simp [intOf]; omega
      | false =>
        have HF := HNO.out rfl
        go_wp2
        go_ret
        exact ⟨(j : Int), rfl, by rw [HF]; simp, HB2.out⟩
    · have hlt' : ¬ (j : Int) < (n : Int) := by omega
      have HF : Hid (es.all (okE S) = true) := by
        show _ = _
        rw [← HAL.out, List.take_of_length_le (by rw [HN.out]; omega)]
      go_wp2
      go_ret
      exact ⟨-1, rfl, by rw [HF.out]; decide, HB.out⟩
set_option maxRecDepth 4000 in
theorem containsE_any {X : Nat → Prop} (S : Int) (A : Nat) (es : List Eg) (a : Option Addr) (n c : Nat) (w : World) (hn : es.length = n) (hm : n ≤ 10000000) (hE : EAt X w a es) (hA : w.cell? ⟨A, 0, none⟩ = some (.int .i64 S)) : Calls Try.prog 31 #[.slice a n c, .func (.func 32) #[] #[.pointer (some ⟨A, 0, none⟩)]] w fun r w' => r = .returned (.bool (!es.all (okE S))) ∧ Below w.heap.size w w' := by
  have HC : Hid (Calls Try.prog 54 #[.slice a n c, .func (.func 32) #[] #[.pointer (some ⟨A, 0, none⟩)]] w _) := indexE_any S A es a n c w hn hm hE hA
  clear hn hm hE hA
  go_enter Try.func31, Try.ntmps31
  go_wp2_with fail
  refine HC.out.mono ?_
  rintro r w2 ⟨i, rfl, hi, k2⟩
  have HI : Hid (decide (0 ≤ i) = (!es.all (okE S))) := hi
  have HB : Hid (Below w.heap.size w w2) := k2
  clear hi k2 HC
  by_cases h0 : 0 ≤ i
  · have h1 : decide (0 ≤ i) = true := by simp [h0]
    go_wp2
    go_ret
    exact ⟨by rw [← HI.out, h1]; rfl, HB.out⟩
  · have h1 : decide (0 ≤ i) = false := by simp [h0]
    go_wp2
    go_ret
    exact ⟨by rw [← HI.out, h1]; rfl, HB.out⟩
set_option maxRecDepth 4000 in
set_option maxHeartbeats 4000000 in
theorem pright_any (M : Ma) (x : Nf) (w : World) (hx : MaAt (fun _ => True) w M x) (he : M.es.length ≤ 10000000) (hr : M.rs.length ≤ 10000000) : Calls Try.prog 12 #[x.val] w fun e w' => e = .returned (.bool (rightOf M)) ∧ Below w.heap.size w w' := by
  have kk : Below w.heap.size w (w.alloc (.cells #[.int .i64 x.S, .slice x.ea x.en x.ec, .slice x.ra x.rn x.rc] 38)) := (Below.refl _ _).alloc (Nat.le_refl _) _
  have HNX : Hid (NFB (w.alloc (.cells #[.int .i64 x.S, .slice x.ea x.en x.ec, .slice x.ra x.rn x.rc] 38)) w.heap.size x) := nfb_new w x
  have HB : Hid (Below w.heap.size w (w.alloc (.cells #[.int .i64 x.S, .slice x.ea x.en x.ec, .slice x.ra x.rn x.rc] 38))) := kk
  have HMX : Hid (MaAt (fun _ => True) (w.alloc (.cells #[.int .i64 x.S, .slice x.ea x.en x.ec, .slice x.ra x.rn x.rc] 38)) M x) := hx.later kk
  obtain ⟨w2, hw2⟩ : ∃ w2, w.alloc (.cells #[.int .i64 x.S, .slice x.ea x.en x.ec, .slice x.ra x.rn x.rc] 38) = w2 := ⟨_, rfl⟩
  rw [hw2] at HNX HB HMX
  obtain ⟨A, hA⟩ : ∃ A, w.heap.size = A := ⟨_, rfl⟩
  rw [hA] at HNX
  have HW2 : Hid (w.alloc (.cells #[.int .i64 x.S, .slice x.ea x.en x.ec, .slice x.ra x.rn x.rc] 38) = w2) := hw2
  have HAA : Hid (w.heap.size = A) := hA
  clear hw2 hA kk hx
  obtain ⟨xS, xa, xn, xc, xra, xrn, xrc⟩ := x
  have e1 : xS = M.S := HMX.out.s
  have e3 : xn = M.es.length := HMX.out.n
  have e5 : xrn = M.rs.length := HMX.out.r
  subst e1 e3 e5
  obtain ⟨n, hn⟩ : ∃ n, M.es.length = n := ⟨_, rfl⟩
  obtain ⟨rn, hrn⟩ : ∃ rn, M.rs.length = rn := ⟨_, rfl⟩
  obtain ⟨S, hS⟩ : ∃ S, M.S = S := ⟨_, rfl⟩
  have HE : Hid (EAt (fun _ => True) w2 xa M.es) := HMX.out.e
  have HRO : Hid (rightOf M = (decide (1 ≤ S) && decide ((rn : Int) = S) && M.es.all (okE S))) := by show _ = _; unfold rightOf; rw [hS, hrn]
  clear HMX
  rw [hn] at HNX HW2 he
  rw [hrn] at HNX HW2 hr
  rw [hS] at HNX HW2
  obtain ⟨x0, x1, x2⟩ := HNX.out.cells
  simp only at x0 x1 x2
  have HC : Hid (Calls Try.prog 31 #[.slice xa n xc, .func (.func 32) #[] #[.pointer (some ⟨A, 0, none⟩)]] w2 _) := containsE_any S A M.es xa n xc w2 hn he HE.out x0
  unfold Nf.val
  simp only at HW2 ⊢
  rw [hn, hrn, hS]
  clear hn hrn hS
  go_enter Try.func12, Try.ntmps12
  go_upto_region 1 with fail
  rw [HW2.out, HAA.out]
  clear HW2
  have hmf : ∀ (fn : Fn) (first cap : Array Value) (w : World), (Instr.makeFunc fn first cap).run Try.prog w = .ok (.func fn first cap) w := fun _ _ _ _ => rfl
  by_cases hS1 : S < 1
  · have HNo : Hid (rightOf M = false) := by show _ = _; rw [HRO.out, show decide (1 ≤ S) = false by simp; omega]; rfl
    go_wp2
    go_ret
    exact ⟨by rw [HNo.out]; rfl, HB.out⟩
  by_cases hSr : (rn : Int) = S
  · have hSr2 : ((rn : Int) != S) = false := by simp [hSr]
    have hSr3 : ((rn : Int) == S) = true := by simp [hSr]
    have HYes : Hid (rightOf M = M.es.all (okE S)) := by show _ = _; rw [HRO.out, show decide (1 ≤ S) = true by simp; omega, show decide ((rn : Int) = S) = true by simp [hSr]]; simp
    have HSR : Hid ((rn : Int) = S) := hSr
    clear hSr
    obtain ⟨v, hv⟩ : ∃ v, M.es.all (okE S) = v := ⟨_, rfl⟩
    rw [hv] at HC HYes
    clear hv
    go_wp2_with fail
    refine HC.out.mono ?_
    rintro r w3 ⟨rfl, k3⟩
    have HB3 : Hid (Below w.heap.size w w3) := below_step HB.out k3
    clear k3 HC
    go_wp2
    go_ret
    exact ⟨by rw [HYes.out]; simp, HB3.out⟩
  · have HNo : Hid (rightOf M = false) := by show _ = _; rw [HRO.out, show decide ((rn : Int) = S) = false by simp [hSr]]; simp
    have hSr2 : ((rn : Int) != S) = true := by simp [hSr]
    have hSr3 : ((rn : Int) == S) = false := by simp [hSr]
    go_wp2
    go_ret
    exact ⟨by rw [HNo.out]; rfl, HB.out⟩
theorem right_ok : RightOK := fun M x w h h1 h2 => pright_any M x w h h1 h2
end Go.Proofs.Ytjmbimgofceanaa
