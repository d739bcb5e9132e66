
import Derived.Test.YtmjnobdlgbojoaaGreatDoorG17
import Derived.Test.YtmjnobdlgbojoaaGreatDoorG18
namespace Go.Proofs.YtmjnobdlgbojoaaGreatDoor
open Go.RowKit
attribute [local go_sem ↓] Go.wp_at_zero Go.wp_at_succ
def WB (w : World) (Y : Nat) : Prop := w.heap[Y]? = some (.cells #[.nilFunc, .func (.func 42) #[] #[], .func (.func 43) #[] #[], .func (.func 44) #[] #[], .func (.func 45) #[] #[], .func (.func 46) #[] #[], .func (.func 47) #[] #[], .func (.func 48) #[] #[]] 97 (0, 0))
def BB (w : World) (b0 B Y : Nat) (m : Mk) : Prop :=
  WB w Y ∧ ∃ V, w.heap[B]? = some (.cells #[.slice (some ⟨Y, 0, none⟩) 8 8, .int .i64 (m.S : Nat), V] 60 (0, 0)) ∧ RowE w b0 V m.es
section
variable {w w' : World} {b0 B Y : Nat} {m : Mk}
theorem WB.lt (h : WB w Y) : Y < w.heap.size := (Array.getElem?_eq_some_iff.1 h).1
theorem WB.ty (h : WB w Y) : TyB w 97 Y := ⟨_, _, h⟩
theorem BB.lt (h : BB w b0 B Y m) : B < w.heap.size := by
  obtain ⟨_, V, h1, _⟩ := h
  exact (Array.getElem?_eq_some_iff.1 h1).1
theorem BB.ty (h : BB w b0 B Y m) : TyB w 60 B := by
  obtain ⟨_, V, h1, _⟩ := h
  exact ⟨_, _, h1⟩
theorem BB.ne (h : BB w b0 B Y m) {A : Nat} {t : TypeId} (hA : TyB w t A) (ht : t ≠ 60) : A ≠ B := fun e => ht (TyB.ne (e ▸ hA) h.ty)
theorem BB.cells (h : BB w b0 B Y m) : ∃ o c, w.cell? ⟨B, 0, none⟩ = some (.slice (some ⟨Y, 0, none⟩) 8 8) ∧ w.cell? ⟨B, 1, none⟩ = some (.int .i64 (m.S : Nat)) ∧ w.cell? ⟨B, 2, none⟩ = some (.slice o m.es.length c) := by
  obtain ⟨_, V, h1, h2⟩ := h
  obtain ⟨a, c, rfl, _⟩ := h2.form
  exact ⟨a, c, by simp [World.cell?, h1], by simp [World.cell?, h1], by simp [World.cell?, h1]⟩
theorem BB.frozen (h : BB w b0 B Y m) (j : Nat) : w.frozen? ⟨B, j, none⟩ = false := by
  obtain ⟨_, V, h1, _⟩ := h
  simp [World.frozen?, h1]
theorem BB.later (h : BB w b0 B Y m) (hb : Below w.heap.size w w') : BB w' b0 B Y m := by
  have hlt := h.lt
  obtain ⟨hy, V, h1, h2⟩ := h
  exact ⟨(hb.block Y hy.lt).trans hy, V, (hb.block B hlt).trans h1, h2.keep (fun b _ hlt _ => hb.block b hlt)⟩
theorem BB.grown (h : BB w b0 B Y m) {r : Option Nat} (hg : w.grownBy w' r) (hr : ∀ k, r = some k → ∀ t, TyB w t k → t = 3) : BB w' b0 B Y m := by
  have hlt := h.lt
  have hty := h.ty
  obtain ⟨hy, V, h1, h2⟩ := h
  exact ⟨(hg.block Y hy.lt (fun e => absurd (hr Y e.symm _ hy.ty) (by decide))).trans hy, V, (hg.block B hlt (fun e => absurd (hr B e.symm _ hty) (by decide))).trans h1, h2.keep (fun b _ hlt ht => hg.block b hlt (fun e => absurd (hr b e.symm _ ht) (by decide)))⟩
end
theorem bstate_any (B b0 Y : Nat) (m : Mk) (w : World) (h : BB w b0 B Y m) (hS : m.S ≤ 1000000) : Calls Tryz.prog 81 #[.pointer (some ⟨B, 0, none⟩)] w fun e w' => e = .returned (.int .i64 (m.S : Nat)) ∧ BB w' b0 B Y m.st ∧ Fm b0 B w w' := by
  obtain ⟨o, c, c0, c1, c2⟩ := h.cells
  have f1 := h.frozen 1
  have HF : Hid (Fm b0 B w (w.setCell ⟨B, 1, none⟩ (.int .i64 ((m.S : Int) + 1)))) := Fm.set b0 B w 1 _
  have HM : Hid (BB (w.setCell ⟨B, 1, none⟩ (.int .i64 ((m.S : Int) + 1))) b0 B Y m.st) := by
    have hty := h.ty
    obtain ⟨hy, V, h1, h2⟩ := h
    refine ⟨(Below.heap_setCell w ⟨B, 1, none⟩ _ Y (fun e => by have e : Y = B := e; exact absurd (TyB.ne (e ▸ hy.ty) hty) (by decide))).trans hy, V, ?_, h2.keep (fun b _ hlt ht => Below.heap_setCell w ⟨B, 1, none⟩ _ b (fun e => by have e : b = B := e; exact absurd (TyB.ne (e ▸ ht) hty) (by decide)))⟩
    rw [heap_set h1]
    simp [Mk.st]
  have c1' : (w.setCell ⟨B, 1, none⟩ (.int .i64 ((m.S : Int) + 1))).cell? ⟨B, 1, none⟩ = some (.int .i64 ((m.S : Int) + 1)) := by
    obtain ⟨_, V, h1, _⟩ := HM.out
    simp [World.cell?, h1, Mk.st]
  clear h
  go_enter Tryz.func81, Tryz.ntmps81
  go_wp2
  go_ret
  exact ⟨ret_int (by omega), HM.out, HF.out⟩
theorem BB.put {w w3 : World} {b0 B Y : Nat} {m : Mk} {o : Option Addr} {c g cap n : Nat} {e : Eg} {ob : Obj} (hn : m.es.length = n) (h : BB w b0 B Y m) (hc : w.cell? ⟨B, 2, none⟩ = some (.slice o n c)) 
    (hr : RowE w3 b0 (.slice (some ⟨g, 0, none⟩) (n + 1) cap) (m.es ++ [e])) (hg : (w.alloc ob).grownBy w3 (Value.slice o n c).ownBlock) :
    BB (w3.setCell ⟨B, 2, none⟩ (.slice (some ⟨g, 0, none⟩) (n + 1) cap)) b0 B Y (m.ed e) ∧ Fm b0 B w (w3.setCell ⟨B, 2, none⟩ (.slice (some ⟨g, 0, none⟩) (n + 1) cap)) ∧ w3.cell? ⟨B, 2, none⟩ = some (.slice o n c) ∧ w3.frozen? ⟨B, 2, none⟩ = false := by
  subst hn
  have hlt := h.lt
  have hal : Below w.heap.size w (w.alloc ob) := (Below.refl _ _).alloc (Nat.le_refl _) _
  obtain ⟨hy, V, h1, h2⟩ := h
  have hV : V = .slice o m.es.length c := by
    simp only [World.cell?, h1] at hc
    simpa using hc
  subst hV
  have hob : ∀ k, (Value.slice o m.es.length c).ownBlock = some k → b0 ≤ k ∧ TyB (w.alloc ob) 66 k := fun k hk => by
    obtain ⟨q1, q2⟩ := h2.ty k hk
    obtain ⟨cc, z, q3⟩ := q2
    exact ⟨q1, TyB.same ⟨cc, z, q3⟩ (hal.block k (Array.getElem?_eq_some_iff.1 q3).1)⟩
  have hneB : (Value.slice o m.es.length c).ownBlock ≠ some B := fun e => absurd (TyB.ne (h2.ty B e).2 ⟨_, _, h1⟩) (by decide)
  have hneY : (Value.slice o m.es.length c).ownBlock ≠ some Y := fun e => absurd (TyB.ne (h2.ty Y e).2 hy.ty) (by decide)
  have h3 : w3.heap[B]? = some (.cells #[.slice (some ⟨Y, 0, none⟩) 8 8, .int .i64 (m.S : Nat), .slice o m.es.length c] 60 (0, 0)) := (hg.block B (Nat.lt_of_lt_of_le hlt hal.size) (fun e => hneB e.symm)).trans ((hal.block B hlt).trans h1)
  have hy3 : WB w3 Y := (hg.block Y (Nat.lt_of_lt_of_le hy.lt hal.size) (fun e => hneY e.symm)).trans ((hal.block Y hy.lt).trans hy)
  refine ⟨⟨?_, .slice (some ⟨g, 0, none⟩) (m.es.length + 1) cap, ?_, ?_⟩, ?_, by simp [World.cell?, h3], by simp [World.frozen?, h3]⟩
  · exact (Below.heap_setCell w3 ⟨B, 2, none⟩ _ Y (fun e => by have e : Y = B := e; exact absurd (TyB.ne (e ▸ hy3.ty) ⟨_, _, h3⟩) (by decide))).trans hy3
  · rw [heap_set h3]
    simp [Mk.ed]
  · have hr' : RowE w3 b0 (.slice (some ⟨g, 0, none⟩) (m.es.length + 1) cap) (m.ed e).es := hr
    exact hr'.keep (fun b _ hlt ht => Below.heap_setCell w3 ⟨B, 2, none⟩ _ b (fun e => by have e : b = B := e; exact absurd (TyB.ne (e ▸ ht) ⟨_, _, h3⟩) (by decide)))
  · exact ((Fm.of_below b0 B hal).grown hg hob).trans (Fm.set b0 B w3 2 _)
def Eg.val (e : Eg) : Value := .agg #[.int .i64 e.k, .int .i64 e.f, .int .i64 e.t, .int .u64 (Oct.word e.s 0 : Nat), .int .u64 (Oct.word e.s 1 : Nat), .int .u64 (Oct.word e.s 2 : Nat), .int .u64 (Oct.word e.s 3 : Nat)]
set_option maxRecDepth 4000 in
set_option maxHeartbeats 8000000 in
theorem bedge_any (B b0 Y : Nat) (m : Mk) (e : Eg) (w : World) (h : BB w b0 B Y m) (hb : b0 ≤ w.heap.size) (hl : m.es.length ≤ 1000000) : Calls Tryz.prog 82 #[.pointer (some ⟨B, 0, none⟩), e.val] w fun x w' => x = .returned (.tuple #[]) ∧ BB w' b0 B Y (m.ed e) ∧ Fm b0 B w w' := by
  obtain ⟨i0, hi, hz0, hz1, hz2⟩ := info_parts infoE
  have kk : Below w.heap.size w (w.alloc (.cells #[.int .i64 e.k, .int .i64 e.f, .int .i64 e.t, .int .u64 (Oct.word e.s 0 : Nat), .int .u64 (Oct.word e.s 1 : Nat), .int .u64 (Oct.word e.s 2 : Nat), .int .u64 (Oct.word e.s 3 : Nat)] 66)) := (Below.refl _ _).alloc (Nat.le_refl _) _
  have HM : Hid (BB (w.alloc (.cells #[.int .i64 e.k, .int .i64 e.f, .int .i64 e.t, .int .u64 (Oct.word e.s 0 : Nat), .int .u64 (Oct.word e.s 1 : Nat), .int .u64 (Oct.word e.s 2 : Nat), .int .u64 (Oct.word e.s 3 : Nat)] 66)) b0 B Y m) := h.later kk
  have HF : Hid (Fm b0 B w (w.alloc (.cells #[.int .i64 e.k, .int .i64 e.f, .int .i64 e.t, .int .u64 (Oct.word e.s 0 : Nat), .int .u64 (Oct.word e.s 1 : Nat), .int .u64 (Oct.word e.s 2 : Nat), .int .u64 (Oct.word e.s 3 : Nat)] 66))) := Fm.of_below b0 B kk
  have HZ : Hid (b0 ≤ (w.alloc (.cells #[.int .i64 e.k, .int .i64 e.f, .int .i64 e.t, .int .u64 (Oct.word e.s 0 : Nat), .int .u64 (Oct.word e.s 1 : Nat), .int .u64 (Oct.word e.s 2 : Nat), .int .u64 (Oct.word e.s 3 : Nat)] 66)).heap.size) := Nat.le_trans hb kk.size
  have HS : Hid ((w.alloc (.cells #[.int .i64 e.k, .int .i64 e.f, .int .i64 e.t, .int .u64 (Oct.word e.s 0 : Nat), .int .u64 (Oct.word e.s 1 : Nat), .int .u64 (Oct.word e.s 2 : Nat), .int .u64 (Oct.word e.s 3 : Nat)] 66)).heap[w.heap.size]? = some (.cells #[.int .i64 e.k, .int .i64 e.f, .int .i64 e.t, .int .u64 (Oct.word e.s 0 : Nat), .int .u64 (Oct.word e.s 1 : Nat), .int .u64 (Oct.word e.s 2 : Nat), .int .u64 (Oct.word e.s 3 : Nat)] 66 (0, 0))) := heap_alloc_new w _
  obtain ⟨w1, hw1⟩ : ∃ w1, w.alloc (.cells #[.int .i64 e.k, .int .i64 e.f, .int .i64 e.t, .int .u64 (Oct.word e.s 0 : Nat), .int .u64 (Oct.word e.s 1 : Nat), .int .u64 (Oct.word e.s 2 : Nat), .int .u64 (Oct.word e.s 3 : Nat)] 66) = w1 := ⟨_, rfl⟩
  rw [hw1] at HM HF HZ HS
  obtain ⟨X, hX⟩ : ∃ X, w.heap.size = X := ⟨_, rfl⟩
  rw [hX] at HS
  have HW1 : Hid (w.alloc (.cells #[.int .i64 e.k, .int .i64 e.f, .int .i64 e.t, .int .u64 (Oct.word e.s 0 : Nat), .int .u64 (Oct.word e.s 1 : Nat), .int .u64 (Oct.word e.s 2 : Nat), .int .u64 (Oct.word e.s 3 : Nat)] 66) = w1) := hw1
  have HXX : Hid (w.heap.size = X) := hX
  have HL : Hid (m.es.length ≤ 1000000) := hl
  clear hw1 hX kk h hb hl
  unfold Eg.val
  obtain ⟨k, f, t, s⟩ := e
  simp only at HW1 HS ⊢
  go_enter Tryz.func82, Tryz.ntmps82
  go_upto_region 1 with fail
  rw [HW1.out, HXX.out]
  clear HW1 HXX
  obtain ⟨o, c, c0, c1, c2⟩ := HM.out.cells
  have s0 : w1.cell? ⟨X, 0, none⟩ = some (.int .i64 k) := by simp [World.cell?, HS.out]
  have s1 : w1.cell? ⟨X, 1, none⟩ = some (.int .i64 f) := by simp [World.cell?, HS.out]
  have s2 : w1.cell? ⟨X, 2, none⟩ = some (.int .i64 t) := by simp [World.cell?, HS.out]
  have s3 : w1.cell? ⟨X, 3, none⟩ = some (.int .u64 (Oct.word s 0 : Nat)) := by simp [World.cell?, HS.out]
  have s4 : w1.cell? ⟨X, 4, none⟩ = some (.int .u64 (Oct.word s 1 : Nat)) := by simp [World.cell?, HS.out]
  have s5 : w1.cell? ⟨X, 5, none⟩ = some (.int .u64 (Oct.word s 2 : Nat)) := by simp [World.cell?, HS.out]
  have s6 : w1.cell? ⟨X, 6, none⟩ = some (.int .u64 (Oct.word s 3 : Nat)) := by simp [World.cell?, HS.out]
  have HRW : Hid (RowE w1 b0 (.slice o m.es.length c) m.es) := by
    obtain ⟨_, V, h1, h2⟩ := HM.out
    have hV : V = .slice o m.es.length c := by
      simp only [World.cell?, h1] at c2
      simpa using c2
    subst hV
    exact h2
  obtain ⟨n, hn⟩ : ∃ n, m.es.length = n := ⟨_, rfl⟩
  have HBL : Hid (B < w1.heap.size) := HM.out.lt
  have c2f := HM.out.frozen 2
  rw [hn] at c2
  have HC2 : Hid (w1.cell? ⟨B, 2, none⟩ = some (.slice o n c)) := c2
  have hz1c : ∀ ob : Obj, (w1.alloc ob).drew.cell? ⟨B, 2, none⟩ = some (.slice o n c) := fun ob => (World.cell?_of_block (w := w1) (Below.heap_alloc w1 ob B HBL.out)).trans c2
  have hz1f : ∀ ob : Obj, (w1.alloc ob).drew.frozen? ⟨B, 2, none⟩ = false := fun ob => (World.frozen?_of_block (w := w1) (Below.heap_alloc w1 ob B HBL.out)).trans c2f
  have HN : Hid (m.es.length = n) := hn
  have hn6 : n ≤ 1000000 := by have := HL.out; omega
  have HRN : Hid (w1.ownsRow b0 66 7 (.slice o n c) n (flatE m.es)) := by have := HRW.out; unfold RowE at this; rw [hn] at this; exact this
  clear hn
  go_region_law
    ((refine step_append_lies _ (by rfl) _ _ _ (by rfl) b0 66 i0 _ 7 56 Tryz.underlying34 hi hz0 hz1 hz2 rfl (by omega) (.slice o n c) n _ (by rfl) ((HRN.out.alloc _).drew)
        ⟨w1.heap.size, 0, none⟩ 1 1 (Eg.cells ⟨k, f, t, s⟩) (by rfl) (by rfl) (World.news_of_block (cs := #[.int .i64 k, .int .i64 f, .int .i64 t, .int .u64 (Oct.word s 0 : Nat), .int .u64 (Oct.word s 1 : Nat), .int .u64 (Oct.word s 2 : Nat), .int .u64 (Oct.word s 3 : Nat)]) (t := 66) (fr := (0, 0)) (heap_alloc_new w1 _)) (by have := flatE_one [⟨k, f, t, s⟩]; simpa [flatE] using this)
        (by omega) (by unfold maxLen; omega) (by omega) (by have := HZ.out; simp <;> omega) (w1.heap.size + 1) (by simp) ?_; intro g cap w3 hown hgrow hat hlt; have HO : Hid (RowE w3 b0 (.slice (some ⟨g, 0, none⟩) (n + 1) cap) (m.es ++ [⟨k, f, t, s⟩])) := rowE_snoc HN.out hown; have HG : Hid ((w1.alloc (.cells #[.int .i64 k, .int .i64 f, .int .i64 t, .int .u64 (Oct.word s 0 : Nat), .int .u64 (Oct.word s 1 : Nat), .int .u64 (Oct.word s 2 : Nat), .int .u64 (Oct.word s 3 : Nat)] 66)).grownBy w3 (Value.slice o n c).ownBlock) := ⟨hgrow.os, hgrow.tape, hgrow.output, hgrow.size, hgrow.block⟩; obtain ⟨q1, q2, z1, z2⟩ := BB.put HN.out HM.out HC2.out HO.out HG.out; have HQ1 : Hid (BB (w3.setCell ⟨B, 2, none⟩ (.slice (some ⟨g, 0, none⟩) (n + 1) cap)) b0 B Y (m.ed ⟨k, f, t, s⟩)) := q1; have HQ2 : Hid (Fm b0 B w1 (w3.setCell ⟨B, 2, none⟩ (.slice (some ⟨g, 0, none⟩) (n + 1) cap))) := q2; clear q1 q2 hown hgrow hat HO HG))
  all_goals
    go_wp2
    go_end0
    exact ⟨rfl, HQ1.out, HF.out.trans HQ2.out⟩
set_option maxRecDepth 4000 in
theorem bfree_any (B b0 Y : Nat) (m : Mk) (a b : Nat) (w : World) (h : BB w b0 B Y m) (hb : b0 ≤ w.heap.size) (hl : m.es.length ≤ 1000000) : Calls Tryz.prog 83 #[.pointer (some ⟨B, 0, none⟩), .int .i64 (a : Nat), .int .i64 (b : Nat)] w fun x w' => x = .returned (.tuple #[]) ∧ BB w' b0 B Y (m.fr a b) ∧ Fm b0 B w w' := by
  have HC : Hid (Calls Tryz.prog 82 #[.pointer (some ⟨B, 0, none⟩), Eg.val ⟨1, a, b, Oct.none⟩] w _) := bedge_any B b0 Y m ⟨1, a, b, Oct.none⟩ w h hb hl
  unfold Eg.val at HC
  simp only at HC
  rw [word0, word0, word0, word0] at HC
  clear h hb hl
  go_enter Tryz.func83, Tryz.ntmps83
  go_wp2_with fail
  refine HC.out.mono ?_
  rintro x w2 ⟨rfl, h1, h2⟩
  have H1 : Hid (BB w2 b0 B Y (m.fr a b)) := h1
  have H2 : Hid (Fm b0 B w w2) := h2
  clear h1 h2
  go_wp2
  go_end0
  exact ⟨rfl, H1.out, H2.out⟩
set_option maxRecDepth 4000 in
set_option maxHeartbeats 2000000 in
theorem onward_any (B b0 Y : Nat) (m : Mk) (k : Int) (a : Nat) (s : Oct.S) (w : World) (h : BB w b0 B Y m) (hb : b0 ≤ w.heap.size) (hS : m.S ≤ 1000000) (hl : m.es.length ≤ 1000000) : Calls Tryz.prog 67 #[.pointer (some ⟨B, 0, none⟩), .int .i64 k, .int .i64 (a : Nat), setV s] w fun e w' => e = .returned (.int .i64 (m.S : Nat)) ∧ BB w' b0 B Y (m.st.ed ⟨k, a, m.S, s⟩) ∧ Fm b0 B w w' := by
  have kk : Below w.heap.size w (w.alloc (.cells #[.int .u64 (Oct.word s 0 : Nat), .int .u64 (Oct.word s 1 : Nat), .int .u64 (Oct.word s 2 : Nat), .int .u64 (Oct.word s 3 : Nat)] 28)) := (Below.refl _ _).alloc (Nat.le_refl _) _
  have HM : Hid (BB (w.alloc (.cells #[.int .u64 (Oct.word s 0 : Nat), .int .u64 (Oct.word s 1 : Nat), .int .u64 (Oct.word s 2 : Nat), .int .u64 (Oct.word s 3 : Nat)] 28)) b0 B Y m) := h.later kk
  have HF : Hid (Fm b0 B w (w.alloc (.cells #[.int .u64 (Oct.word s 0 : Nat), .int .u64 (Oct.word s 1 : Nat), .int .u64 (Oct.word s 2 : Nat), .int .u64 (Oct.word s 3 : Nat)] 28))) := Fm.of_below b0 B kk
  have HZ : Hid (b0 ≤ (w.alloc (.cells #[.int .u64 (Oct.word s 0 : Nat), .int .u64 (Oct.word s 1 : Nat), .int .u64 (Oct.word s 2 : Nat), .int .u64 (Oct.word s 3 : Nat)] 28)).heap.size) := Nat.le_trans hb kk.size
  have HS : Hid ((w.alloc (.cells #[.int .u64 (Oct.word s 0 : Nat), .int .u64 (Oct.word s 1 : Nat), .int .u64 (Oct.word s 2 : Nat), .int .u64 (Oct.word s 3 : Nat)] 28)).heap[w.heap.size]? = some (.cells #[.int .u64 (Oct.word s 0 : Nat), .int .u64 (Oct.word s 1 : Nat), .int .u64 (Oct.word s 2 : Nat), .int .u64 (Oct.word s 3 : Nat)] 28 (0, 0))) := heap_alloc_new w _
  obtain ⟨w1, hw1⟩ : ∃ w1, w.alloc (.cells #[.int .u64 (Oct.word s 0 : Nat), .int .u64 (Oct.word s 1 : Nat), .int .u64 (Oct.word s 2 : Nat), .int .u64 (Oct.word s 3 : Nat)] 28) = w1 := ⟨_, rfl⟩
  rw [hw1] at HM HF HZ HS
  obtain ⟨X, hX⟩ : ∃ X, w.heap.size = X := ⟨_, rfl⟩
  rw [hX] at HS
  have HW1 : Hid (w.alloc (.cells #[.int .u64 (Oct.word s 0 : Nat), .int .u64 (Oct.word s 1 : Nat), .int .u64 (Oct.word s 2 : Nat), .int .u64 (Oct.word s 3 : Nat)] 28) = w1) := hw1
  have HXX : Hid (w.heap.size = X) := hX
  have HL : Hid (m.es.length ≤ 1000000) := hl
  clear hw1 hX kk h hb hl
  unfold setV
  go_enter Tryz.func67, Tryz.ntmps67
  go_upto_region 1 with fail
  rw [HW1.out, HXX.out]
  clear HW1 HXX
  go_wp2_with fail
  refine (bstate_any B b0 Y m w1 HM.out hS).mono ?_
  rintro x w2 ⟨rfl, h2, f2⟩
  have HM2 : Hid (BB w2 b0 B Y m.st) := h2
  have HF2 : Hid (Fm b0 B w w2) := HF.out.trans f2
  have HS2 : Hid (w2.heap[X]? = some (.cells #[.int .u64 (Oct.word s 0 : Nat), .int .u64 (Oct.word s 1 : Nat), .int .u64 (Oct.word s 2 : Nat), .int .u64 (Oct.word s 3 : Nat)] 28 (0, 0))) := f2.keep HS.out (HM.out.ne ⟨_, _, HS.out⟩ (by decide)) (by decide)
  have HZ2 : Hid (b0 ≤ w2.heap.size) := Nat.le_trans HZ.out f2.size
  clear h2 f2 HM HF HS HZ
  have s0 : w2.cell? ⟨X, 0, none⟩ = some (.int .u64 (Oct.word s 0 : Nat)) := by simp [World.cell?, HS2.out]
  have s1 : w2.cell? ⟨X, 1, none⟩ = some (.int .u64 (Oct.word s 1 : Nat)) := by simp [World.cell?, HS2.out]
  have s2 : w2.cell? ⟨X, 2, none⟩ = some (.int .u64 (Oct.word s 2 : Nat)) := by simp [World.cell?, HS2.out]
  have s3 : w2.cell? ⟨X, 3, none⟩ = some (.int .u64 (Oct.word s 3 : Nat)) := by simp [World.cell?, HS2.out]
  have HC : Hid (Calls Tryz.prog 82 #[.pointer (some ⟨B, 0, none⟩), Eg.val ⟨k, a, m.S, s⟩] w2 _) := bedge_any B b0 Y m.st ⟨k, a, m.S, s⟩ w2 HM2.out HZ2.out HL.out
  unfold Eg.val at HC
  simp only at HC
  go_wp2_with fail
  refine HC.out.mono ?_
  rintro x w3 ⟨rfl, h3, f3⟩
  have HM3 : Hid (BB w3 b0 B Y (m.st.ed ⟨k, a, m.S, s⟩)) := h3
  have HF3 : Hid (Fm b0 B w w3) := HF2.out.trans f3
  clear h3 f3 HM2 HF2 HS2 HZ2 HC s0 s1 s2 s3
  go_wp2
  go_ret
  exact ⟨rfl, HM3.out, HF3.out⟩
set_option maxRecDepth 4000 in
theorem fork_any (B b0 Y : Nat) (m : Mk) (a : Nat) (w : World) (h : BB w b0 B Y m) (hb : b0 ≤ w.heap.size) (hS : m.S ≤ 1000000) (hl : m.es.length ≤ 1000000) : Calls Tryz.prog 68 #[.pointer (some ⟨B, 0, none⟩), .int .i64 (a : Nat)] w fun e w' => e = .returned (.int .i64 (m.S : Nat)) ∧ BB w' b0 B Y (m.st.fr a m.S) ∧ Fm b0 B w w' := by
  have HC : Hid (Calls Tryz.prog 67 #[.pointer (some ⟨B, 0, none⟩), .int .i64 1, .int .i64 (a : Nat), setV Oct.none] w _) := onward_any B b0 Y m 1 a Oct.none w h hb hS hl
  unfold setV at HC
  rw [word0, word0, word0, word0] at HC
  clear h hb hl hS
  go_enter Tryz.func68, Tryz.ntmps68
  go_wp2_with fail
  refine HC.out.mono ?_
  rintro x w2 ⟨rfl, h1, h2⟩
  have H1 : Hid (BB w2 b0 B Y (m.st.fr a m.S)) := h1
  have H2 : Hid (Fm b0 B w w2) := h2
  clear h1 h2
  go_wp2
  go_ret
  exact ⟨rfl, H1.out, H2.out⟩
end Go.Proofs.YtmjnobdlgbojoaaGreatDoor


namespace Go.Proofs.YtmjnobdlgbojoaaGreatDoor
open Go Go.RowKit
section
variable {P : Program} {ops : Array Oper} {Q : Exit → Act → World → Prop}
def held (ops : Array Oper) (n : Nat) (lim : Nat → Nat) : Bool := (List.range n).all fun i => decide (n ≤ lim i) && decide (lim i < ops.size) && (List.range ops.size).any fun j => decide (i < j) && (decide (j = lim i) || (decide (j < n) && decide (lim j ≤ lim i))) && match ops[j]? with
  | some o => o.after.any fun e => e.on == i && Region.binds .any e
  | none => false
theorem held_at {n : Nat} {lim : Nat → Nat} (h : held ops n lim = true) {i : Nat} (hi : i < n) : n ≤ lim i ∧ lim i < ops.size ∧ ∃ j o e, i < j ∧ (j = lim i ∨ j < n ∧ lim j ≤ lim i) ∧ ops[j]? = some o ∧ e ∈ o.after ∧ e.on = i ∧ Region.binds .any e = true := by
  have h1 := List.all_eq_true.1 h i (List.mem_range.2 hi)
  rw [Bool.and_eq_true, Bool.and_eq_true] at h1
  obtain ⟨⟨h2, h3⟩, h4⟩ := h1
  refine ⟨of_decide_eq_true h2, of_decide_eq_true h3, ?_⟩
  obtain ⟨j, _, h5⟩ := List.any_eq_true.1 h4
  rw [Bool.and_eq_true, Bool.and_eq_true, Bool.or_eq_true, Bool.and_eq_true] at h5
  obtain ⟨⟨h6, h7⟩, h8⟩ := h5
  cases ho : ops[j]? with
  | none => rw [ho] at h8; cases h8
  | some o =>
    rw [ho] at h8
    have h8 : (o.after.any fun e => e.on == i && Region.binds .any e) = true := h8
    rw [Array.any_eq_true'] at h8
    obtain ⟨x, hx, h9⟩ := h8
    rw [Bool.and_eq_true] at h9
    refine ⟨j, o, x, of_decide_eq_true h6, ?_, ho, hx, eq_of_beq h9.1, h9.2⟩
    rcases h7 with h7 | ⟨h7, h7'⟩
    · exact Or.inl (of_decide_eq_true h7)
    · exact Or.inr ⟨of_decide_eq_true h7, of_decide_eq_true h7'⟩
theorem held_all {n : Nat} {lim : Nat → Nat} (h : held ops n lim = true) {L : Nat → Bool} (hcl : ∀ i o e, ops[i]? = some o → e ∈ o.after → Region.binds .any e = true → L i = true → L e.on = true) (hlow : ∀ j j', n ≤ j → j ≤ j' → j' < ops.size → L j' = true → L j = true) : ∀ (z i : Nat), i < n → n - i ≤ z → L (lim i) = true → L i = true
  | 0, i, hi, hz, _ => by omega
  | z + 1, i, hi, hz, hL => by
    obtain ⟨h1, h2, j, o, e, hij, hj, ho, he, hon, hb⟩ := held_at h hi
    have hLj : L j = true := by
      rcases hj with rfl | ⟨hjn, hjl⟩
      · exact hL
      · exact held_all h hcl hlow z j hjn (by omega) (hlow (lim j) (lim i) (held_at h hjn).1 hjl h2 hL)
    have := hcl j o e ho he hb hLj
    rwa [hon] at this
theorem wp_region_chain2 {id : Nat} {a : Act} {w0 : World} (hm : P.follows .mixedOrders = true) (n m : Nat) (hn : ops.size = m) (hnm : n ≤ m) (D : Nat → Nat) (R : Nat → Value → Prop) (S : Nat → Act → World → Prop)
    (hput : ∀ k a w i v, i < n → S k a w → S k (a.put (some (D i)) v) w)
    (hsz : ∀ k a w i, i < n → S k a w → D i < a.tmps.size)
    (hinj : ∀ i j, i < n → j < n → D i = D j → i = j)
    (hlink : linked ops n = true) (lim : Nat → Nat) (hheld : held ops n lim = true)
    (hduty : AllFrom (fun i o => o.guard = none ∧ (∀ e ∈ o.after, e.on < i) ∧
        (i < n → o.dst = some (D i) ∧ ∀ k a w, n ≤ k → k ≤ lim i → S k a w → (∀ e ∈ o.after, Region.binds .any e = true → R e.on (T a (D e.on))) → ∀ Q, o.wp P a w (Got (R i) o a w) Q) ∧
        (n ≤ i → ∀ a w, S i a w → (∀ e ∈ o.after, e.on < n → Region.binds .any e = true → R e.on (T a (D e.on))) → o.wp P a w (fun a' w' => S (i + 1) a' w' ∧ ∀ j, j < n → T a' (D j) = T a (D j)) Q)) 0 ops.toList)
    (hend : ∀ a w, S m a w → (∀ i, i < n → R i (T a (D i))) → Q .normal a w)
    (h0 : S n a w0.drew) : (Code.region id ops true).wp P Q a w0 := by
  have hd := fun i o (ho : ops[i]? = some o) => by
    have := allFrom_at hduty i o (by simpa using ho)
    rw [Nat.zero_add] at this
    exact this
  refine wp_region_inv hm (fun L a w => (∀ i o e, ops[i]? = some o → e ∈ o.after → Region.binds .any e = true → L i = true → L e.on = true) ∧ ∃ k, n ≤ k ∧ k ≤ m ∧ (∀ j, n ≤ j → j < m → (L j = true ↔ j < k)) ∧ S k a w ∧ ∀ i, i < n → L i = true → R i (T a (D i))) ?wf ?step ?fin ?zero
  case wf =>
    intro i o e ho he _
    exact (hd i o ho).2.1 e he
  case zero =>
    intro L hL
    refine ⟨fun i o e ho _ _ h => (by rw [hL i (Array.getElem?_eq_some_iff.1 ho).1] at h; cases h), n, Nat.le_refl _, hnm, fun j h1 h2 => ?_, h0, fun i hi h => ?_⟩
    · rw [hL j (by omega)]
      constructor
      · intro h; cases h
      · intro h; omega
    · rw [hL i (by omega)] at h; cases h
  case fin =>
    rintro L a w hL ⟨_, k, h1, h2, h3, hS, hR⟩
    have hk : k = m := by
      by_cases e : k = m
      · exact e
      · have := (h3 k h1 (by omega)).1 (hL k (by omega))
        omega
    subst hk
    exact hend a w hS (fun i hi => hR i hi (hL i (by omega)))
  case step =>
    intro i o ho
    have hi := (Array.getElem?_eq_some_iff.1 ho).1
    obtain ⟨hg, hlt, hp, hc⟩ := hd i o ho
    refine ⟨hg, ?_⟩
    rintro L a w ⟨hcl, k, h1, h2, h3, hS, hR⟩ hLi hE
    have hcl2 : ∀ j p e, ops[j]? = some p → e ∈ p.after → Region.binds .any e = true → more L i j = true → more L i e.on = true := fun j p e hp9 he hb hj => by
      unfold more at hj ⊢
      by_cases hji : j = i
      · subst hji
        rw [ho] at hp9
        cases hp9
        simp [hE e he hb]
      · rw [if_neg hji] at hj
        simp [hcl j p e hp9 he hb hj]
    by_cases hl : i < n
    · obtain ⟨hdst, hst⟩ := hp hl
      have hkl : k ≤ lim i := by
        by_cases hk : k ≤ lim i
        · exact hk
        · have h5 := held_all hheld hcl (fun j j' hj hj' hlt h => by
            rw [hn] at hlt
            exact (h3 j hj (by omega)).2 (by have := (h3 j' (by omega) hlt).1 h; omega)) (n - i) i hl (by omega)
          obtain ⟨q1, q2, _⟩ := held_at hheld hl
          have := h5 ((h3 (lim i) q1 (by omega)).2 (by omega))
          rw [this] at hLi
          cases hLi
      refine Oper.wp_mono ?_ (hst k a w h1 hkl hS (fun e he hb => hR e.on (by have := hlt e he; omega) (hE e he hb)) Q)
      rintro a' w' ⟨v, rfl, rfl, hr⟩
      rw [hdst]
      refine ⟨hcl2, k, h1, h2, fun j hj hj2 => ?_, hput k a w' i v hl hS, fun j hj hmj => ?_⟩
      · rw [← h3 j hj hj2]
        unfold more
        rw [if_neg (by omega)]
      · by_cases hji : j = i
        · subst hji
          unfold T
          rw [put_same (hsz k a w' j hl hS)]
          exact hr
        · unfold T
          rw [put_other (fun e => hji (hinj i j hl hj e).symm)]
          unfold more at hmj
          rw [if_neg hji] at hmj
          exact hR j hj hmj
    · have hki : k = i := by
        have ha : ¬ i < k := fun h => by rw [(h3 i (by omega) (by omega)).2 h] at hLi; cases hLi
        by_cases e : i = n
        · omega
        · obtain ⟨x, hx, hx1, hx2⟩ := linked_at hlink ho (by omega)
          have := (h3 (i - 1) (by omega) (by omega)).1 (by rw [← hx1]; exact hE x hx hx2)
          omega
      subst hki
      refine Oper.wp_mono ?_ (hc (by omega) a w hS (fun e he hlt hb => hR e.on hlt (hE e he hb)))
      rintro a' w' ⟨hS', hT'⟩
      refine ⟨hcl2, k + 1, by omega, by omega, fun j hj hj2 => ?_, hS', fun j hj hmj => ?_⟩
      · unfold more
        by_cases hjk : j = k
        · rw [if_pos hjk]
          constructor
          · intro _; omega
          · intro _; rfl
        · rw [if_neg hjk, h3 j hj hj2]
          omega
      · unfold more at hmj
        rw [if_neg (by omega)] at hmj
        rw [hT' j hj]
        exact hR j hj hmj
end
end Go.Proofs.YtmjnobdlgbojoaaGreatDoor


namespace Go.Proofs.YtmjnobdlgbojoaaGreatDoor
open Go.RowKit
def BuildPost (w : World) (t : Tn) (rule : Int) (e : Ending) (w' : World) : Prop := Below w.heap.size w w' ∧ ∃ y : Nf, e = .returned (.tuple #[y.val, .int .i64 ((buildOf t rule).2 : Nat)]) ∧ MaAt (fun b => w.heap.size ≤ b ∧ ¬ TyB w' 37 b) w' (buildOf t rule).1 y
theorem build_no {w u : World} {t : Tn} {rule : Int} {R k : Nat} (hb : Below w.heap.size w u) (hR : w.heap.size ≤ R) (hk : buildOf t rule = (zeroMa, k)) : BuildPost w t rule (.returned (.tuple #[Nf.val ⟨0, none, 0, 0, none, 0, 0⟩, .int .i64 (k : Nat)])) (put3 u R ⟨0, none, 0, 0, none, 0, 0⟩) := by
  unfold BuildPost
  rw [hk]
  exact ⟨below_put3 hb hR _, _, rfl, zero_maAt _ _⟩
def UnionPost (w : World) (Ms : List Ma) (e : Ending) (w' : World) : Prop := Below w.heap.size w w' ∧ ∃ y : Nf, e = .returned (.tuple #[y.val, .int .i64 ((unionOf Ms).2 : Nat)]) ∧ MaAt (fun b => w.heap.size ≤ b ∧ ¬ TyB w' 37 b) w' (unionOf Ms).1 y
theorem union_no {w u : World} {Ms : List Ma} {R : Nat} (hb : Below w.heap.size w u) (hR : w.heap.size ≤ R) (hk : Ms.all rightOf = false) : UnionPost w Ms (.returned (.tuple #[Nf.val ⟨0, none, 0, 0, none, 0, 0⟩, .int .i64 ((70 : Nat) : Nat)])) (put3 u R ⟨0, none, 0, 0, none, 0, 0⟩) := by
  unfold UnionPost unionOf
  rw [hk]
  exact ⟨below_put3 hb hR _, _, rfl, zero_maAt _ _⟩
theorem union_yes {w u : World} {O R : Nat} {x : Nf} {o : Ma} {Ms : List Ma} (h : Un w O R u x o) (hk : Ms.all rightOf = true) (ho : unions Ms ⟨1, [], [0]⟩ = o) : UnionPost w Ms (.returned (.tuple #[x.val, .int .i64 ((0 : Nat) : Nat)])) (put3 u R x) ∧ NFB (put3 u R x) R x := by
  refine ⟨?_, h.res.put3 x⟩
  unfold UnionPost unionOf
  rw [hk, if_pos rfl, ho]
  have hk2 : ∀ k, k ≠ R → (put3 u R x).heap[k]? = u.heap[k]? := fun k hk => heap_put3 u R x k hk
  have h1 := (h.e.keep (w' := put3 u R x) (fun b _ _ hb => hk2 b (fun e => absurd (TyB.ne hb (e ▸ h.res.ty)) (by decide))))
  have h2 := (h.r.keep (w' := put3 u R x) (fun b _ _ hb => hk2 b (fun e => absurd (TyB.ne hb (e ▸ h.res.ty)) (by decide))))
  exact ⟨below_put3 h.low h.hR _, x, rfl, h.s, h1.at.1, h2.at.1, h1.at2.keep (fun b hb _ => ⟨hb.1, fun h => absurd (TyB.ne hb.2 h) (by decide)⟩) (fun _ _ _ => rfl), h2.at2.keep (fun b hb _ => ⟨hb.1, fun h => absurd (TyB.ne hb.2 h) (by decide)⟩) (fun _ _ _ => rfl)⟩
def BuildOK : Prop := ∀ (t : Tn) (x : Nd) (w : World) (rule : Int), InAt w t x → Calls Tryz.prog 6 #[x.val, .int .i64 rule] w (BuildPost w t rule)
def UnionOK : Prop := ∀ (Ms : List Ma) (xs : List Nf) (a : Option Addr) (c : Nat) (w : World), ListAt w a Ms xs → Ms.length ≤ c → c ≤ maxLen → Ms.length ≤ 10000000 → (unions Ms ⟨1, [], [0]⟩).es.length ≤ 10000000 → (unions Ms ⟨1, [], [0]⟩).rs.length ≤ 10000000 → Calls Tryz.prog 7 #[.slice a Ms.length c] w (UnionPost w Ms)
end Go.Proofs.YtmjnobdlgbojoaaGreatDoor
