/- The document's reader of layer 4: its block, its frame; more, is, fault. -/
import Derived.Test.YtlcnmfgmgiijpaaG14
namespace Go.Proofs.Ytlcnmfgmgiijpaa
open Go.RowKit
attribute [local go_sem ↓] Go.wp_at_zero Go.wp_at_succ

/-- a block of an element type -/
def TyB (w : World) (t : TypeId) (b : Nat) : Prop := ∃ c z, w.heap[b]? = some (.cells c t z)
theorem TyB.same {w w' : World} {t : TypeId} {b : Nat} (h : TyB w t b) (e : w'.heap[b]? = w.heap[b]?) : TyB w' t b := by
  obtain ⟨c, z, hc⟩ := h
  exact ⟨c, z, e.trans hc⟩
theorem TyB.ne {w : World} {t u : TypeId} {b : Nat} (h : TyB w t b) (h2 : TyB w u b) : t = u := by
  obtain ⟨c, z, hc⟩ := h
  obtain ⟨c', z', hc'⟩ := h2
  rw [hc] at hc'
  simp at hc'
  exact hc'.2.1
/-- THE FRAME OF THE READER's METHODS: all stands but the reader's block and, from a place on, blocks of numbers. -/
structure Fr (b0 B : Nat) (w w' : World) : Prop where
  os : w'.os = w.os
  tape : w'.tape = w.tape
  output : w'.output = w.output
  size : w.heap.size ≤ w'.heap.size
  block : ∀ k, k < w.heap.size → k ≠ B → (b0 ≤ k → ¬ TyB w 3 k) → w'.heap[k]? = w.heap[k]?
section
variable {b0 B : Nat} {w u w' : World}
theorem Fr.refl (b0 B : Nat) (w : World) : Fr b0 B w w := ⟨rfl, rfl, rfl, Nat.le_refl _, fun _ _ _ _ => rfl⟩
theorem Fr.trans (h : Fr b0 B w u) (h2 : Fr b0 B u w') : Fr b0 B w w' :=
  ⟨h2.os.trans h.os, h2.tape.trans h.tape, h2.output.trans h.output, Nat.le_trans h.size h2.size, fun k hk hne ht => by
    have e := h.block k hk hne ht
    exact (h2.block k (Nat.lt_of_lt_of_le hk h.size) hne (fun hb ht3 => ht hb (ht3.same e.symm))).trans e⟩
theorem Fr.later (h : Fr b0 B w u) (hb : Below u.heap.size u w') : Fr b0 B w w' :=
  ⟨hb.os.trans h.os, hb.tape.trans h.tape, hb.output.trans h.output, Nat.le_trans h.size hb.size, fun k hk hne ht => (hb.block k (Nat.lt_of_lt_of_le hk h.size)).trans (h.block k hk hne ht)⟩
theorem Fr.of_below (b0 B : Nat) (hb : Below w.heap.size w w') : Fr b0 B w w' := (Fr.refl b0 B w).later hb
theorem Fr.set (b0 B : Nat) (w : World) (j : Nat) (v : Value) : Fr b0 B w (w.setCell ⟨B, j, none⟩ v) :=
  ⟨rfl, rfl, rfl, by simp [World.setCell], fun k _ hk _ => Below.heap_setCell w ⟨B, j, none⟩ v k hk⟩
theorem Fr.new (h : Fr b0 B w u) {A : Nat} (hA : w.heap.size ≤ A) (j : Nat) (v : Value) : Fr b0 B w (u.setCell ⟨A, j, none⟩ v) :=
  ⟨h.os, h.tape, h.output, by simpa [World.setCell] using h.size, fun k hk hne ht => (Below.heap_setCell u ⟨A, j, none⟩ v k (by simp; omega)).trans (h.block k hk hne ht)⟩
theorem Fr.put8 (h : Fr b0 B w u) {A : Nat} (hA : w.heap.size ≤ A) (x : Nd) : Fr b0 B w (put8 u A x) :=
  (((((((h.new hA _ _).new hA _ _).new hA _ _).new hA _ _).new hA _ _).new hA _ _).new hA _ _).new hA _ _
theorem Fr.put4 (h : Fr b0 B w u) {A : Nat} (hA : w.heap.size ≤ A) (t : Oct.S) : Fr b0 B w (put4 u A t) :=
  (((h.new hA _ _).new hA _ _).new hA _ _).new hA _ _
theorem Fr.own (h : Fr b0 B w u) {r : Option Nat} (hg : u.grownBy w' r) (hr : ∀ k, r = some k → w.heap.size ≤ k) : Fr b0 B w w' :=
  ⟨hg.os.trans h.os, hg.tape.trans h.tape, hg.output.trans h.output, Nat.le_trans h.size hg.size, fun k hk hne ht =>
    (hg.block k (Nat.lt_of_lt_of_le hk h.size) (fun e => by have := hr k e.symm; omega)).trans (h.block k hk hne ht)⟩
theorem Fr.keep (h : Fr b0 B w w') {A : Nat} {c : Array Value} {t : TypeId} {z : Nat × Nat} (hA : w.heap[A]? = some (.cells c t z)) (hne : A ≠ B) (ht : t ≠ 3) : w'.heap[A]? = some (.cells c t z) :=
  (h.block A (Array.getElem?_eq_some_iff.1 hA).1 hne (fun _ h3 => ht (TyB.ne ⟨c, z, hA⟩ h3))).trans hA
theorem Fr.below (h : Fr b0 B w w') (hB : b0 ≤ B) (hb : b0 ≤ w.heap.size) : Below b0 w w' :=
  ⟨h.os, h.tape, h.output, h.size, fun k hk => h.block k (by omega) (by omega) (fun h2 => by omega)⟩
end
/-- THE READER's BLOCK: its text, its place, so many open groups, its fault and the place of that. -/
def RR (w : World) (b0 B : Nat) (s : ByteArray) (i d e a : Nat) : Prop :=
  b0 ≤ B ∧ ∃ V xs, w.heap[B]? = some (.cells #[.string s, .int .i64 (i : Nat), V, .int .i64 (e : Nat), .int .i64 (a : Nat)] 57 (0, 0)) ∧ w.ownsRow b0 3 1 V d xs
section
variable {w w' : World} {b0 B : Nat} {s : ByteArray} {i d e a : Nat}
theorem RR.base (h : RR w b0 B s i d e a) : b0 ≤ B := h.1
theorem RR.ty (h : RR w b0 B s i d e a) : TyB w 57 B := by
  obtain ⟨_, V, xs, h1, _⟩ := h
  exact ⟨_, _, h1⟩
theorem RR.lt (h : RR w b0 B s i d e a) : B < w.heap.size := by
  obtain ⟨_, V, xs, h1, _⟩ := h
  exact (Array.getElem?_eq_some_iff.1 h1).1
theorem RR.ne (h : RR w b0 B s i d e a) {A : Nat} {t : TypeId} (hA : TyB w t A) (ht : t ≠ 57) : A ≠ B := fun e => ht (TyB.ne (e ▸ hA) h.ty)
theorem RR.cells (h : RR w b0 B s i d e a) : ∃ o c, w.cell? ⟨B, 0, none⟩ = some (.string s) ∧ w.cell? ⟨B, 1, none⟩ = some (.int .i64 (i : Nat)) ∧ w.cell? ⟨B, 2, none⟩ = some (.slice o d c) ∧ w.cell? ⟨B, 3, none⟩ = some (.int .i64 (e : Nat)) ∧ w.cell? ⟨B, 4, none⟩ = some (.int .i64 (a : Nat)) := by
  obtain ⟨_, V, xs, h1, h2⟩ := h
  rcases h2.2 with ⟨rfl, rfl⟩ | ⟨g, cap, cur, rfl, _⟩
  · refine ⟨none, 0, ?_, ?_, ?_, ?_, ?_⟩ <;> simp [World.cell?, h1]
  · refine ⟨some ⟨g, 0, none⟩, cap, ?_, ?_, ?_, ?_, ?_⟩ <;> simp [World.cell?, h1]
theorem RR.frozen (h : RR w b0 B s i d e a) (j : Nat) : w.frozen? ⟨B, j, none⟩ = false := by
  obtain ⟨_, V, xs, h1, _⟩ := h
  simp [World.frozen?, h1]
theorem RR.keep (h : RR w b0 B s i d e a) (hk : ∀ k, k < w.heap.size → (k = B ∨ TyB w 3 k) → w'.heap[k]? = w.heap[k]?) : RR w' b0 B s i d e a := by
  have hlt := h.lt
  obtain ⟨h0, V, xs, h1, h2⟩ := h
  refine ⟨h0, V, xs, (hk B hlt (Or.inl rfl)).trans h1, h2.1, ?_⟩
  rcases h2.2 with h3 | ⟨g, cap, cur, rfl, hb, hg, r⟩
  · exact Or.inl h3
  · exact Or.inr ⟨g, cap, cur, rfl, hb, (hk g (Array.getElem?_eq_some_iff.1 hg).1 (Or.inr ⟨_, _, hg⟩)).trans hg, r⟩
theorem RR.later (h : RR w b0 B s i d e a) (hb : Below w.heap.size w w') : RR w' b0 B s i d e a := h.keep (fun k hk _ => hb.block k hk)
/-- something written into a block that is none of the reader's -/
theorem RR.apart (h : RR w b0 B s i d e a) {A : Nat} {t : TypeId} (hA : TyB w t A) (h3 : t ≠ 3) (h57 : t ≠ 57) (hk : ∀ k, k < w.heap.size → k ≠ A → w'.heap[k]? = w.heap[k]?) : RR w' b0 B s i d e a :=
  h.keep (fun k hlt hk2 => hk k hlt (fun e => by
    subst e
    rcases hk2 with rfl | hk2
    · exact h57 (TyB.ne hA h.ty)
    · exact h3 (TyB.ne hA hk2)))
theorem RR.put8 (h : RR w b0 B s i d e a) {A : Nat} {x : Nd} (hA : NB w A x) (y : Nd) : RR (put8 w A y) b0 B s i d e a := h.apart (A := A) ⟨_, _, hA⟩ (by decide) (by decide) (fun k _ hk => heap_put8 w A y k hk)
theorem heap_put4 (w : World) (A : Nat) (x : Oct.S) (k : Nat) (h : k ≠ A) : (put4 w A x).heap[k]? = w.heap[k]? := by
  unfold Ytlcnmfgmgiijpaa.put4
  rw [Below.heap_setCell _ ⟨A, 3, none⟩ _ k h, Below.heap_setCell _ ⟨A, 2, none⟩ _ k h, Below.heap_setCell _ ⟨A, 1, none⟩ _ k h, Below.heap_setCell _ ⟨A, 0, none⟩ _ k h]
theorem RR.put4 (h : RR w b0 B s i d e a) {A : Nat} {x : Oct.S} (hA : SB w A x) (y : Oct.S) : RR (put4 w A y) b0 B s i d e a := h.apart (A := A) ⟨_, _, hA⟩ (by decide) (by decide) (fun k _ hk => heap_put4 w A y k hk)
theorem RR.at (h : RR w b0 B s i d e a) (j : Nat) : RR (w.setCell ⟨B, 1, none⟩ (.int .i64 (j : Nat))) b0 B s j d e a := by
  have hty := h.ty
  obtain ⟨h0, V, xs, h1, h2⟩ := h
  refine ⟨h0, V, xs, ?_, h2.1, ?_⟩
  · rw [heap_set h1]
    rfl
  · rcases h2.2 with h3 | ⟨g, cap, cur, rfl, hb, hg, r⟩
    · exact Or.inl h3
    · exact Or.inr ⟨g, cap, cur, rfl, hb, (Below.heap_setCell w ⟨B, 1, none⟩ _ g (fun e => by simp at e; subst e; exact absurd (TyB.ne hty ⟨_, _, hg⟩) (by decide))).trans hg, r⟩
theorem RR.fault (h : RR w b0 B s i d e a) (e' a' : Nat) : RR ((w.setCell ⟨B, 3, none⟩ (.int .i64 (e' : Nat))).setCell ⟨B, 4, none⟩ (.int .i64 (a' : Nat))) b0 B s i d e' a' := by
  have hty := h.ty
  obtain ⟨h0, V, xs, h1, h2⟩ := h
  refine ⟨h0, V, xs, ?_, h2.1, ?_⟩
  · rw [heap_set (heap_set h1 _ _)]
    rfl
  · rcases h2.2 with h3 | ⟨g, cap, cur, rfl, hb, hg, r⟩
    · exact Or.inl h3
    · have hne : g ≠ B := fun e => by subst e; exact absurd (TyB.ne hty ⟨_, _, hg⟩) (by decide)
      exact Or.inr ⟨g, cap, cur, rfl, hb, ((Below.heap_setCell _ ⟨B, 4, none⟩ _ g hne).trans (Below.heap_setCell w ⟨B, 3, none⟩ _ g hne)).trans hg, r⟩
end
theorem rmore_any (b0 B i d e a k : Nat) (s : ByteArray) (w : World) (h : RR w b0 B s i d e a) : Calls Try.prog 44 #[.pointer (some ⟨B, 0, none⟩), .int .i64 (k : Nat)] w fun x w' => x = .returned (.bool (decide (k < s.size))) ∧ w' = w := by
  obtain ⟨o, c, c0, c1, c2, c3, c4⟩ := h.cells
  clear h
  go_enter Try.func44, Try.ntmps44
  go_wp2
  go_ret
  exact ⟨ret_bool (by simp), rfl⟩
theorem ris_any (b0 B i d e a k b : Nat) (s : ByteArray) (w : World) (h : RR w b0 B s i d e a) : Calls Try.prog 37 #[.pointer (some ⟨B, 0, none⟩), .int .i64 (k : Nat), .int .u8 (b : Nat)] w fun x w' => x = .returned (.bool (sees s k b)) ∧ w' = w := by
  obtain ⟨o, c, c0, c1, c2, c3, c4⟩ := h.cells
  clear h
  by_cases hk : k < s.size
  · have hk' : (k : Int) < (s.size : Int) := by omega
    have hd : decide ((k : Int) < (s.size : Int)) = true := by simp; omega
    go_enter Try.func37, Try.ntmps37
    go_wp2
    go_ret
    exact ⟨ret_bool (by rw [Bool.eq_iff_iff]; simp [sees, byt_eq hk, hk]; omega), rfl⟩
  · have hk' : ¬ (k : Int) < (s.size : Int) := by omega
    have hd : decide ((k : Int) < (s.size : Int)) = false := by simp; omega
    go_enter Try.func37, Try.ntmps37
    go_wp2
    go_ret
    exact ⟨ret_bool (by simp [sees, hk]), rfl⟩
set_option maxHeartbeats 1000000 in
theorem rfault_any (b0 B i d c a : Nat) (s : ByteArray) (w : World) (h : RR w b0 B s i d 0 0) : Calls Try.prog 28 #[.pointer (some ⟨B, 0, none⟩), .int .i64 (c : Nat), .int .i64 (a : Nat)] w fun x w' => x = .returned zeroNd.val ∧ RR w' b0 B s i d c a ∧ Fr b0 B w w' := by
  have hal : Below w.heap.size w (w.alloc (.cells #[.int .i64 0, .int .u64 0, .int .u64 0, .int .u64 0, .int .u64 0, .slice none 0 0, .int .i64 0, .int .i64 0] 28)) := (Below.refl _ _).alloc (Nat.le_refl _) _
  have HN : Hid (NB (w.alloc (.cells #[.int .i64 0, .int .u64 0, .int .u64 0, .int .u64 0, .int .u64 0, .slice none 0 0, .int .i64 0, .int .i64 0] 28)) w.heap.size zeroNd) := nb_zero w
  have HR : Hid (RR (w.alloc (.cells #[.int .i64 0, .int .u64 0, .int .u64 0, .int .u64 0, .int .u64 0, .slice none 0 0, .int .i64 0, .int .i64 0] 28)) b0 B s i d 0 0) := h.later hal
  have HF : Hid (Fr b0 B w (w.alloc (.cells #[.int .i64 0, .int .u64 0, .int .u64 0, .int .u64 0, .int .u64 0, .slice none 0 0, .int .i64 0, .int .i64 0] 28))) := Fr.of_below b0 B hal
  obtain ⟨w1, hw1⟩ : ∃ w1, w1 = w.alloc (.cells #[.int .i64 0, .int .u64 0, .int .u64 0, .int .u64 0, .int .u64 0, .slice none 0 0, .int .i64 0, .int .i64 0] 28) := ⟨_, rfl⟩
  obtain ⟨R, hR⟩ : ∃ R, R = w.heap.size := ⟨_, rfl⟩
  rw [← hw1, ← hR] at HN
  rw [← hw1] at HR HF
  have HW1 : Hid (w1 = _) := hw1
  have HRR : Hid (R = _) := hR
  have HRB : Hid (R ≠ B) := by have := h.lt; show _ ≠ _; omega
  clear hw1 hR hal h
  obtain ⟨o, cc, c0, c1, c2, c3, c4⟩ := HR.out.cells
  have f3 := HR.out.frozen 3
  have f4 := HR.out.frozen 4
  have HN2 : Hid (NB ((w1.setCell ⟨B, 3, none⟩ (.int .i64 (c : Nat))).setCell ⟨B, 4, none⟩ (.int .i64 (a : Nat))) R zeroNd) := (HN.out.set HRB.out _ _).set HRB.out _ _
  have HR2 : Hid (RR ((w1.setCell ⟨B, 3, none⟩ (.int .i64 (c : Nat))).setCell ⟨B, 4, none⟩ (.int .i64 (a : Nat))) b0 B s i d c a) := HR.out.fault c a
  have HF2 : Hid (Fr b0 B w ((w1.setCell ⟨B, 3, none⟩ (.int .i64 (c : Nat))).setCell ⟨B, 4, none⟩ (.int .i64 (a : Nat)))) := (HF.out.trans (Fr.set _ _ _ _ _)).trans (Fr.set _ _ _ _ _)
  go_enter Try.func28, Try.ntmps28
  go_upto_region 1 with fail
  rw [← HW1.out, ← HRR.out]
  clear HW1
  go_upto_region 4 with fail
  obtain ⟨w2, hw2⟩ : ∃ w2, w2 = (w1.setCell ⟨B, 3, none⟩ (.int .i64 (c : Nat))).setCell ⟨B, 4, none⟩ (.int .i64 (a : Nat)) := ⟨_, rfl⟩
  rw [← hw2] at HN2 HR2 HF2 ⊢
  clear hw2 c0 c1 c2 c3 c4 f3 f4 HN HR HF
  obtain ⟨z0, z1, z2, z3, z4, z5, z6, z7⟩ := HN2.out.cells
  have y0 := HN2.out.frozen 0
  have y1 := HN2.out.frozen 1
  have y2 := HN2.out.frozen 2
  have y3 := HN2.out.frozen 3
  have y4 := HN2.out.frozen 4
  have y5 := HN2.out.frozen 5
  have y6 := HN2.out.frozen 6
  have y7 := HN2.out.frozen 7
  go_wp2
  show bodyPost _ _ _ _ _ (put8z _ R 0 none 0 0 0 0)
  rw [put8z_eq]
  refine post_node Try.f28 6 rfl rfl rfl (HN2.out.put8 _) ⟨rfl, HR2.out.put8 HN2.out _, HF2.out.put8 (by rw [HRR.out]; exact Nat.le_refl _) _⟩
end Go.Proofs.Ytlcnmfgmgiijpaa

/- The document's number and marked of layer 4. -/
namespace Go.Proofs.Ytlcnmfgmgiijpaa
open Go.RowKit
attribute [local go_sem ↓] Go.wp_at_zero Go.wp_at_succ

def numOk (n i j : Nat) : Bool := decide (i < j) && decide (j - i ≤ 3) && decide (n ≤ 255)
theorem ret_num {a b c d : Int} {x y : Bool} (h : a = b) (h2 : c = d) (h3 : x = y) : Ending.returned (.tuple #[.int .i64 a, .int .i64 c, .bool x]) = .returned (.tuple #[.int .i64 b, .int .i64 d, .bool y]) := by rw [h, h2, h3]
theorem pow_step {f : Nat} (h : f + 1 ≤ 4) : 10 ^ (4 - f) = 10 * 10 ^ (4 - (f + 1)) := by
  rw [show 4 - f = (4 - (f + 1)) + 1 by omega, Nat.pow_succ, Nat.mul_comm]
theorem pow_le (f : Nat) : 10 ^ (4 - f) ≤ 10000 := Nat.le_trans (Nat.pow_le_pow_right (by decide) (by omega : 4 - f ≤ 4)) (by decide)
theorem post57 {Q : Ending → World → Prop} {a : Act} {w : World} {v4 v5 v6 : Value} (hd : a.defers = []) (h4 : a.tmps[4]?.getD undef = v4) (h5 : a.tmps[5]?.getD undef = v5) (h6 : a.tmps[6]?.getD undef = v6) (hQ : Q (.returned (.tuple #[v4, v5, v6])) w) : bodyPost Try.prog Try.f57 Q .ret a w :=
  bodyPost_ret (by simp [results, Try.results57, go_sem, h4, h5, h6]) hd hQ
set_option maxRecDepth 4000 in
set_option maxHeartbeats 4000000 in
theorem rnumber_any (b0 B i d e a k : Nat) (s : ByteArray) (w : World) (h : RR w b0 B s i d e a) (hs : s.size ≤ 1024) (hk : k ≤ 1024) : Calls Try.prog 57 #[.pointer (some ⟨B, 0, none⟩), .int .i64 (k : Nat)] w fun x w' => x = .returned (.tuple #[.int .i64 ((digits s 4 k 0).1 : Nat), .int .i64 ((digits s 4 k 0).2 : Nat), .bool (numOk (digits s 4 k 0).1 k (digits s 4 k 0).2)]) ∧ w' = w := by
  have HR : Hid (RR w b0 B s i d e a) := h
  obtain ⟨D, hD⟩ : ∃ D, D = digits s 4 k 0 := ⟨_, rfl⟩
  rw [← hD]
  have HD : Hid (D = digits s 4 k 0) := hD
  clear hD
  obtain ⟨o, c, c0, c1, c2, c3, c4⟩ := h.cells
  clear h
  go_enter Try.func57, Try.ntmps57
  go_wp2_with fail
  go_loopw [1, 7] (fun x n u => ∃ f j m : Nat, f ≤ 4 ∧ x = .int .i64 j ∧ n = .int .i64 m ∧ j + f = k + 4 ∧ Hid (m < 10 ^ (4 - f)) ∧ Hid (D = digits s f j m) ∧ u = w) (fun x _ _ => 4000 - (intOf x).toNat)
  case atStart => exact ⟨4, k, 0, Nat.le_refl _, rfl, rfl, rfl, (show 0 < 10 ^ (4 - 4) by decide), HD, rfl⟩
  case round =>
    obtain ⟨f, j, m, hf, rfl, rfl, hj, hm, hdg, hw⟩ := hrel
    subst hw
    have hm2 : m < 10000 := Nat.lt_of_lt_of_le hm.out (pow_le f)
    have hjk : k ≤ j := by omega
    by_cases hlt : j < s.size
    · have hlt' : (j : Int) < (s.size : Int) := by omega
      have hdt : decide (j < s.size) = true := decide_eq_true hlt
      have hbe := byt_eq hlt
      by_cases hge : 48 ≤ s[j].toNat
      · have p1 : (48 : Int) ≤ (s[j].toNat : Int) := by omega
        by_cases hle : s[j].toNat ≤ 57
        · have p2 : (s[j].toNat : Int) ≤ 57 := by omega
          cases f with
          | succ f =>
            have p3 : (j : Int) - (k : Int) < 4 := by omega
            have p4 : ¬ (s[j].toNat : Int) < 48 := by omega
            have HDG : Hid (D = digits s f (j + 1) (m * 10 + (s[j].toNat - 48))) := by show _ = _; rw [hdg.out, digits, if_pos (by unfold isDigit; simp; omega), hbe]
            have HM2 : Hid (m * 10 + (s[j].toNat - 48) < 10 ^ (4 - f)) := by have := hm.out; have e := pow_step hf; show _ < _; rw [e]; omega
            have hwr : IntKind.u8.wrap ((s[j].toNat : Int) - 48) = ((s[j].toNat - 48 : Nat) : Int) := by rw [IntKind.wrap_u8]; omega
            have hwi : IntKind.i64.wrap ((s[j].toNat - 48 : Nat) : Int) = ((s[j].toNat - 48 : Nat) : Int) := by rw [IntKind.wrap_i64]; omega
            go_wp2_with (go_at_call 44; refine (rmore_any b0 B i d e a j s _ HR.out).mono ?_; rintro x wz ⟨rfl, hz⟩; subst hz; rw [hdt])
            go_roundw
            case rel => exact ⟨f, j + 1, m * 10 + (s[j].toNat - 48), by omega, by go_num, by go_num, by omega, HM2, HDG, trivial⟩
            case measure => simp [intOf]; omega
          | zero =>
            have p3 : ¬ (j : Int) - (k : Int) < 4 := by omega
            have q1 : (k : Int) < (j : Int) := by omega
            have q2 : ¬ (j : Int) - (k : Int) ≤ 3 := by omega
            have HE : Hid (D = (m, j)) := by show _ = _; rw [hdg.out]; rfl
            have HV : Hid (numOk m k j = false) := (show numOk m k j = false by unfold numOk; simp; omega)
            go_wp2_with (go_at_call 44; refine (rmore_any b0 B i d e a j s _ HR.out).mono ?_; rintro x wz ⟨rfl, hz⟩; subst hz; rw [hdt])
            refine post57 rfl rfl rfl rfl ?_
            exact ⟨ret_num (by rw [HE.out]) (by rw [HE.out]) (by rw [HE.out, HV.out]; first | done | exact decide_eq_false (by omega)), rfl⟩
        · have p2 : ¬ (s[j].toNat : Int) ≤ 57 := by omega
          have HE : Hid (D = (m, j)) := by show _ = _; rw [hdg.out]; cases f with | zero => rfl | succ f => (rw [digits, if_neg (by unfold isDigit; simp; omega)])
          by_cases h1 : k < j
          · have q1 : (k : Int) < (j : Int) := by omega
            by_cases h2 : j ≤ k + 3
            · have q2 : (j : Int) - (k : Int) ≤ 3 := by omega
              by_cases h3 : m ≤ 255
              · have q3 : (m : Int) ≤ 255 := by omega
                have HV : Hid (numOk m k j = true) := (show numOk m k j = true by unfold numOk; simp; omega)
                clear h1 h2 h3
                go_wp2_with (go_at_call 44; refine (rmore_any b0 B i d e a j s _ HR.out).mono ?_; rintro x wz ⟨rfl, hz⟩; subst hz; rw [hdt])
                refine post57 rfl rfl rfl rfl ?_
                exact ⟨ret_num (by rw [HE.out]) (by rw [HE.out]) (by rw [HE.out, HV.out]; first | done | exact decide_eq_false (by omega)), rfl⟩
              · have q3 : ¬ (m : Int) ≤ 255 := by omega
                have HV : Hid (numOk m k j = false) := (show numOk m k j = false by unfold numOk; simp; omega)
                clear h1 h2 h3
                go_wp2_with (go_at_call 44; refine (rmore_any b0 B i d e a j s _ HR.out).mono ?_; rintro x wz ⟨rfl, hz⟩; subst hz; rw [hdt])
                refine post57 rfl rfl rfl rfl ?_
                exact ⟨ret_num (by rw [HE.out]) (by rw [HE.out]) (by rw [HE.out, HV.out]; first | done | exact decide_eq_false (by omega)), rfl⟩
            · have q2 : ¬ (j : Int) - (k : Int) ≤ 3 := by omega
              have HV : Hid (numOk m k j = false) := (show numOk m k j = false by unfold numOk; simp; omega)
              clear h1 h2
              go_wp2_with (go_at_call 44; refine (rmore_any b0 B i d e a j s _ HR.out).mono ?_; rintro x wz ⟨rfl, hz⟩; subst hz; rw [hdt])
              refine post57 rfl rfl rfl rfl ?_
              exact ⟨ret_num (by rw [HE.out]) (by rw [HE.out]) (by rw [HE.out, HV.out]; first | done | exact decide_eq_false (by omega)), rfl⟩
          · have q1 : ¬ (k : Int) < (j : Int) := by omega
            have HV : Hid (numOk m k j = false) := (show numOk m k j = false by unfold numOk; simp; omega)
            clear h1
            go_wp2_with (go_at_call 44; refine (rmore_any b0 B i d e a j s _ HR.out).mono ?_; rintro x wz ⟨rfl, hz⟩; subst hz; rw [hdt])
            refine post57 rfl rfl rfl rfl ?_
            exact ⟨ret_num (by rw [HE.out]) (by rw [HE.out]) (by rw [HE.out, HV.out]; first | done | exact decide_eq_false (by omega)), rfl⟩
      · have p1 : ¬ (48 : Int) ≤ (s[j].toNat : Int) := by omega
        have HE : Hid (D = (m, j)) := by show _ = _; rw [hdg.out]; cases f with | zero => rfl | succ f => (rw [digits, if_neg (by unfold isDigit; simp; omega)])
        by_cases h1 : k < j
        · have q1 : (k : Int) < (j : Int) := by omega
          by_cases h2 : j ≤ k + 3
          · have q2 : (j : Int) - (k : Int) ≤ 3 := by omega
            by_cases h3 : m ≤ 255
            · have q3 : (m : Int) ≤ 255 := by omega
              have HV : Hid (numOk m k j = true) := (show numOk m k j = true by unfold numOk; simp; omega)
              clear h1 h2 h3
              go_wp2_with (go_at_call 44; refine (rmore_any b0 B i d e a j s _ HR.out).mono ?_; rintro x wz ⟨rfl, hz⟩; subst hz; rw [hdt])
              refine post57 rfl rfl rfl rfl ?_
              exact ⟨ret_num (by rw [HE.out]) (by rw [HE.out]) (by rw [HE.out, HV.out]; first | done | exact decide_eq_false (by omega)), rfl⟩
            · have q3 : ¬ (m : Int) ≤ 255 := by omega
              have HV : Hid (numOk m k j = false) := (show numOk m k j = false by unfold numOk; simp; omega)
              clear h1 h2 h3
              go_wp2_with (go_at_call 44; refine (rmore_any b0 B i d e a j s _ HR.out).mono ?_; rintro x wz ⟨rfl, hz⟩; subst hz; rw [hdt])
              refine post57 rfl rfl rfl rfl ?_
              exact ⟨ret_num (by rw [HE.out]) (by rw [HE.out]) (by rw [HE.out, HV.out]; first | done | exact decide_eq_false (by omega)), rfl⟩
          · have q2 : ¬ (j : Int) - (k : Int) ≤ 3 := by omega
            have HV : Hid (numOk m k j = false) := (show numOk m k j = false by unfold numOk; simp; omega)
            clear h1 h2
            go_wp2_with (go_at_call 44; refine (rmore_any b0 B i d e a j s _ HR.out).mono ?_; rintro x wz ⟨rfl, hz⟩; subst hz; rw [hdt])
            refine post57 rfl rfl rfl rfl ?_
            exact ⟨ret_num (by rw [HE.out]) (by rw [HE.out]) (by rw [HE.out, HV.out]; first | done | exact decide_eq_false (by omega)), rfl⟩
        · have q1 : ¬ (k : Int) < (j : Int) := by omega
          have HV : Hid (numOk m k j = false) := (show numOk m k j = false by unfold numOk; simp; omega)
          clear h1
          go_wp2_with (go_at_call 44; refine (rmore_any b0 B i d e a j s _ HR.out).mono ?_; rintro x wz ⟨rfl, hz⟩; subst hz; rw [hdt])
          refine post57 rfl rfl rfl rfl ?_
          exact ⟨ret_num (by rw [HE.out]) (by rw [HE.out]) (by rw [HE.out, HV.out]; first | done | exact decide_eq_false (by omega)), rfl⟩
    · have hlt' : ¬ (j : Int) < (s.size : Int) := by omega
      have hdt : decide (j < s.size) = false := decide_eq_false hlt
      have HE : Hid (D = (m, j)) := by show _ = _; rw [hdg.out]; cases f with | zero => rfl | succ f => (rw [digits, if_neg (by unfold isDigit; simp; omega)])
      by_cases h1 : k < j
      · have q1 : (k : Int) < (j : Int) := by omega
        by_cases h2 : j ≤ k + 3
        · have q2 : (j : Int) - (k : Int) ≤ 3 := by omega
          by_cases h3 : m ≤ 255
          · have q3 : (m : Int) ≤ 255 := by omega
            have HV : Hid (numOk m k j = true) := (show numOk m k j = true by unfold numOk; simp; omega)
            clear h1 h2 h3
            go_wp2_with (go_at_call 44; refine (rmore_any b0 B i d e a j s _ HR.out).mono ?_; rintro x wz ⟨rfl, hz⟩; subst hz; rw [hdt])
            refine post57 rfl rfl rfl rfl ?_
            exact ⟨ret_num (by rw [HE.out]) (by rw [HE.out]) (by rw [HE.out, HV.out]; first | done | exact decide_eq_false (by omega)), rfl⟩
          · have q3 : ¬ (m : Int) ≤ 255 := by omega
            have HV : Hid (numOk m k j = false) := (show numOk m k j = false by unfold numOk; simp; omega)
            clear h1 h2 h3
            go_wp2_with (go_at_call 44; refine (rmore_any b0 B i d e a j s _ HR.out).mono ?_; rintro x wz ⟨rfl, hz⟩; subst hz; rw [hdt])
            refine post57 rfl rfl rfl rfl ?_
            exact ⟨ret_num (by rw [HE.out]) (by rw [HE.out]) (by rw [HE.out, HV.out]; first | done | exact decide_eq_false (by omega)), rfl⟩
        · have q2 : ¬ (j : Int) - (k : Int) ≤ 3 := by omega
          have HV : Hid (numOk m k j = false) := (show numOk m k j = false by unfold numOk; simp; omega)
          clear h1 h2
          go_wp2_with (go_at_call 44; refine (rmore_any b0 B i d e a j s _ HR.out).mono ?_; rintro x wz ⟨rfl, hz⟩; subst hz; rw [hdt])
          refine post57 rfl rfl rfl rfl ?_
          exact ⟨ret_num (by rw [HE.out]) (by rw [HE.out]) (by rw [HE.out, HV.out]; first | done | exact decide_eq_false (by omega)), rfl⟩
      · have q1 : ¬ (k : Int) < (j : Int) := by omega
        have HV : Hid (numOk m k j = false) := (show numOk m k j = false by unfold numOk; simp; omega)
        clear h1
        go_wp2_with (go_at_call 44; refine (rmore_any b0 B i d e a j s _ HR.out).mono ?_; rintro x wz ⟨rfl, hz⟩; subst hz; rw [hdt])
        refine post57 rfl rfl rfl rfl ?_
        exact ⟨ret_num (by rw [HE.out]) (by rw [HE.out]) (by rw [HE.out, HV.out]; first | done | exact decide_eq_false (by omega)), rfl⟩
end Go.Proofs.Ytlcnmfgmgiijpaa

/- Counts as the document reads them. -/
namespace Go.Proofs.Ytlcnmfgmgiijpaa
open Go.RowKit

theorem digits_more (s : ByteArray) : ∀ (f i n : Nat), digits s (f + 1) i n = if (digits s f i n).2 = i + f ∧ isDigit s (i + f) = true then ((digits s f i n).1 * 10 + (byt s (i + f) - 48), i + f + 1) else digits s f i n := by
  intro f
  induction f with
  | zero =>
    intro i n
    rw [digits, digits]
    cases h : isDigit s i with
    | true => rw [if_pos rfl, if_pos ⟨rfl, rfl⟩, digits]; rfl
    | false => rw [if_neg (by decide), if_neg (fun e => by cases e.2)]
  | succ f ih =>
    intro i n
    rw [digits]
    cases h : isDigit s i with
    | true =>
      rw [if_pos rfl, ih]
      have e : digits s (f + 1) i n = digits s f (i + 1) (n * 10 + (byt s i - 48)) := by rw [digits, h, if_pos rfl]
      rw [e, show i + 1 + f = i + (f + 1) by omega]
    | false =>
      have e : digits s (f + 1) i n = (n, i) := by rw [digits, h, if_neg (by decide)]
      rw [if_neg (by decide), e, if_neg (fun h2 => by have := h2.1; simp at this)]
theorem digits_place (s : ByteArray) : ∀ (f i n : Nat), i ≤ (digits s f i n).2 ∧ (digits s f i n).2 ≤ i + f := by
  intro f
  induction f with
  | zero => intro i n; rw [digits]; exact ⟨Nat.le_refl _, Nat.le_refl _⟩
  | succ f ih =>
    intro i n
    rw [digits]
    split
    · have := ih (i + 1) (n * 10 + (byt s i - 48))
      omega
    · simp
theorem digit_sees {s : ByteArray} {i c : Nat} (h : isDigit s i = true) (hc : c < 48 ∨ 57 < c) : sees s i c = false := by
  unfold isDigit at h
  unfold sees
  simp at h ⊢
  intro _
  omega
/-- a number, read up to four digits or three -/
theorem num_cases (s : ByteArray) (k : Nat) : ∃ n j, digits s 3 k 0 = (n, j) ∧ k ≤ j ∧ ((numOk (digits s 4 k 0).1 k (digits s 4 k 0).2 = false ∧ sees s j 44 = false ∧ sees s j 125 = false ∧ j ≠ k) ∨ (digits s 4 k 0 = (n, j) ∧ j ≤ k + 3)) := by
  have hp := digits_place s 3 k 0
  obtain ⟨n, j, hd⟩ : ∃ n j, digits s 3 k 0 = (n, j) := ⟨_, _, rfl⟩
  rw [hd] at hp
  simp only at hp
  refine ⟨n, j, hd, hp.1, ?_⟩
  rw [digits_more s 3 k 0, hd]
  simp only
  split
  · rename_i h
    left
    refine ⟨by unfold numOk; simp; omega, ?_, ?_, by omega⟩
    · rw [h.1]; exact digit_sees h.2 (by omega)
    · rw [h.1]; exact digit_sees h.2 (by omega)
  · exact Or.inr ⟨rfl, hp.2⟩
def refCounts (s : ByteArray) (i : Nat) : Rs (Int × Int) :=
  if numOk (digits s 4 (i + 1) 0).1 (i + 1) (digits s 4 (i + 1) 0).2 then
    if sees s (digits s 4 (i + 1) 0).2 44 then
      if sees s ((digits s 4 (i + 1) 0).2 + 1) 125 then .ok (((digits s 4 (i + 1) 0).1 : Nat), -1) ((digits s 4 (i + 1) 0).2 + 1)
      else if numOk (digits s 4 ((digits s 4 (i + 1) 0).2 + 1) 0).1 ((digits s 4 (i + 1) 0).2 + 1) (digits s 4 ((digits s 4 (i + 1) 0).2 + 1) 0).2 then
        if sees s (digits s 4 ((digits s 4 (i + 1) 0).2 + 1) 0).2 125 then
          if (digits s 4 (i + 1) 0).1 ≤ (digits s 4 ((digits s 4 (i + 1) 0).2 + 1) 0).1 then .ok (((digits s 4 (i + 1) 0).1 : Nat), ((digits s 4 ((digits s 4 (i + 1) 0).2 + 1) 0).1 : Nat)) (digits s 4 ((digits s 4 (i + 1) 0).2 + 1) 0).2
          else .bad i 45
        else .bad i 45
      else .bad i 45
    else if sees s (digits s 4 (i + 1) 0).2 125 then .ok (((digits s 4 (i + 1) 0).1 : Nat), ((digits s 4 (i + 1) 0).1 : Nat)) (digits s 4 (i + 1) 0).2
    else .bad i 45
  else .bad i 45
theorem ends_bad {s : ByteArray} {o : Nat} {l m : Int} {j : Nat} (h : sees s j 125 = false) : countsEnd s o l m j = .bad o 45 := by
  unfold countsEnd
  rw [h]
  rfl
theorem ends_great {s : ByteArray} {o : Nat} {l m : Int} {j : Nat} (h : 255 < l) : countsEnd s o l m j = .bad o 45 := by
  unfold countsEnd counted
  rw [show decide (l ≤ 255) = false by simp; omega]
  simp
theorem ends_yes {s : ByteArray} {o : Nat} {l m : Int} {j : Nat} (h : sees s j 125 = true) (hc : counted l m = true) : countsEnd s o l m j = .ok (l, m) j := by
  unfold countsEnd
  rw [h, hc]
  rfl
theorem ends_no {s : ByteArray} {o : Nat} {l m : Int} {j : Nat} (hc : counted l m = false) : countsEnd s o l m j = .bad o 45 := by
  unfold countsEnd
  rw [hc, Bool.and_false]
  rfl
theorem counts_ref (s : ByteArray) (i : Nat) : counts s i = refCounts s i := by
  obtain ⟨n, j, h3, hkj, hc⟩ := num_cases s (i + 1)
  unfold counts refCounts count
  rw [h3]
  simp only
  rcases hc with ⟨hn, h44, h125, hne⟩ | ⟨h4, hj3⟩
  · rw [if_neg hne, hn]
    simp only [Bool.false_eq_true, if_false]
    rw [h44]
    simp only [Bool.false_eq_true, if_false]
    rw [ends_bad h125]
  · rw [h4]
    simp only
    by_cases hj : j = i + 1
    · rw [if_pos hj, show numOk n (i + 1) j = false by unfold numOk; simp; omega]
      rfl
    · rw [if_neg hj]
      simp only
      by_cases hn : n ≤ 255
      · rw [show numOk n (i + 1) j = true by unfold numOk; simp; omega, if_pos rfl]
        cases h44 : sees s j 44 with
        | false =>
          simp only [Bool.false_eq_true, if_false]
          cases h125 : sees s j 125 with
          | false => rw [ends_bad h125]; rfl
          | true => rw [ends_yes h125 (by unfold counted; simp; omega)]; rfl
        | true =>
          rw [if_pos rfl, if_pos rfl]
          cases h1 : sees s (j + 1) 125 with
          | true => rw [if_pos rfl, if_pos rfl, ends_yes h1 (by unfold counted; simp; omega)]
          | false =>
            simp only [Bool.false_eq_true, if_false]
            obtain ⟨m, j2, g3, gkj, gc⟩ := num_cases s (j + 1)
            rw [g3]
            simp only
            rcases gc with ⟨gn, _, g125, gne⟩ | ⟨g4, gj3⟩
            · rw [if_neg gne, gn, if_neg (by decide)]
              simp only
              rw [ends_bad g125]
            · rw [g4]
              simp only
              by_cases gj : j2 = j + 1
              · rw [if_pos gj, show numOk m (j + 1) j2 = false by unfold numOk; simp; omega]
                rfl
              · rw [if_neg gj]
                simp only
                by_cases gn : m ≤ 255
                · rw [show numOk m (j + 1) j2 = true by unfold numOk; simp; omega, if_pos rfl]
                  cases g125 : sees s j2 125 with
                  | false => rw [ends_bad g125]; rfl
                  | true =>
                    rw [if_pos rfl]
                    by_cases hle : n ≤ m
                    · rw [if_pos hle, ends_yes g125 (by unfold counted; simp; omega)]
                    · rw [if_neg hle, ends_no (by unfold counted; simp; omega)]
                · rw [show numOk m (j + 1) j2 = false by unfold numOk; simp; omega, if_neg (by decide), ends_no (by unfold counted; simp; omega)]
      · rw [show numOk n (i + 1) j = false by unfold numOk; simp; omega]
        simp only [Bool.false_eq_true, if_false]
        have hg : (255 : Int) < (n : Nat) := by omega
        rw [ends_great hg, ends_great hg]
        cases h44 : sees s j 44 with
        | false => rfl
        | true =>
          cases h1 : sees s (j + 1) 125 with
          | true => rfl
          | false =>
            simp only [Bool.false_eq_true, if_false, if_true]
            by_cases gj : (digits s 3 (j + 1) 0).2 = j + 1
            · rw [if_pos gj]
            · rw [if_neg gj]
              simp only
              rw [ends_great hg]
end Go.Proofs.Ytlcnmfgmgiijpaa
