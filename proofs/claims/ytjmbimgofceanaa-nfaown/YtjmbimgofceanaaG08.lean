/- ere's repeated. -/
import Derived.Test.YtjmbimgofceanaaG07
namespace Go.Proofs.Ytjmbimgofceanaa
open Go.RowKit
attribute [local go_sem ↓] Go.wp_at_zero Go.wp_at_succ

theorem NB.set {u : World} {A : Nat} {x : Nd} (h : NB u A x) {B : Nat} (hne : A ≠ B) (j : Nat) (v : Value) : NB (u.setCell ⟨B, j, none⟩ v) A x := by
  unfold NB at h ⊢
  rw [Below.heap_setCell u ⟨B, j, none⟩ v A hne]
  exact h
theorem row_new {u : World} {X : Nat → Prop} (x : Nd) (hX : X u.heap.size) : RowAt X (u.alloc (.cells #[.int .i64 x.k, .int .u64 (Oct.word x.s 0 : Nat), .int .u64 (Oct.word x.s 1 : Nat), .int .u64 (Oct.word x.s 2 : Nat), .int .u64 (Oct.word x.s 3 : Nat), .slice x.a x.n x.c, .int .i64 x.mn, .int .i64 x.mx] 30)) (some ⟨u.heap.size, 0, none⟩) [x] := by
  refine Or.inr ⟨u.heap.size, 0, rfl, hX, fun j v hj => ?_⟩
  rw [Nat.zero_add, World.cell?_alloc_mark]
  have e : flatN [x] = x.cells := by simp [flatN]
  rw [e] at hj
  simpa [Nd.cells] using hj
theorem node_one {X : Nat → Prop} {w : World} {t : Tr} {x : Nd} {a : Option Addr} (k : Nat) (l m : Int) (c : Nat) (hr : RowAt X w a [x]) (ht : NodeAt X w t x) : NodeAt X w (.mk k Oct.none [t] l m) ⟨k, Oct.none, a, 1, c, l, m⟩ :=
  .mk k Oct.none [t] l m a 1 c [x] rfl rfl hr (fun i t' v' h1 h2 => by
    cases i with
    | zero => simp at h1 h2; subst h1 h2; exact ht
    | succ i => simp at h1)
theorem counts_lt {s : ByteArray} {i j : Nat} {x : Int × Int} (h : counts s i = .ok x j) : j < s.size := by
  have he : ∀ {o : Nat} {l m : Int} {k : Nat}, countsEnd s o l m k = .ok x j → j < s.size := fun {o l m k} hh => by
    unfold countsEnd at hh
    split at hh
    · rename_i h1
      cases hh
      simp [sees] at h1
      exact h1.1.1
    · cases hh
  unfold counts at h
  split at h
  · split at h
    · split at h
      · exact he h
      · split at h
        · exact he h
        · cases h
        · cases h
    · exact he h
  · cases h
  · cases h
/-- THE STATE of ere.repeated: the atom's box, the result, the reader. -/
structure Rp (w : World) (s : ByteArray) (B A R d : Nat) (base : Nat) (t : Tr) (x : Nd) (u : World) (i : Nat) : Prop where
  box : NB u A x
  res : NB u R zeroNd
  rd : RB u B s i d
  grown : w.grownBy u (some B)
  node : NodeAt (fun b => base ≤ b ∧ b < w.heap.size) u t x
  hA : w.heap.size ≤ A
  hR : w.heap.size ≤ R
  hB : B < base
  hbase : base ≤ w.heap.size
section
variable {w : World} {s : ByteArray} {B A R d base : Nat} {t : Tr} {x : Nd} {u u' : World} {i : Nat}
theorem Rp.later (h : Rp w s B A R d base t x u i) (hb : Below u.heap.size u u') : Rp w s B A R d base t x u' i :=
  ⟨h.box.later hb, h.res.later hb, h.rd.later hb, grown_below h.grown hb, h.node.later hb, h.hA, h.hR, h.hB, h.hbase⟩
theorem Rp.read (h : Rp w s B A R d base t x u i) {j : Nat} (hg : u.grownBy u' (some B)) (hr : RB u' B s j d) : Rp w s B A R d base t x u' j := by
  have h1 := h.hA
  have h2 := h.hR
  have h3 := h.hB
  have h4 := h.hbase
  exact ⟨h.box.grown hg (by simp; omega), h.res.grown hg (by simp; omega), hr, grown_trans h.grown hg, h.node.keep (fun _ h _ => h) (fun b hb hlt => hg.block b hlt (by simp; omega)), h1, h2, h3, h4⟩
end
set_option maxHeartbeats 4000000 in
theorem repeated_walk (B i d base : Nat) (s : ByteArray) (t : Tr) (x : Nd) (w : World) (h : RB w B s i d) (hi : i ≤ s.size) (hs : s.size ≤ 1024) (hn : NodeAt (fun b => base ≤ b) w t x) (hB : B < base) (hbase : base ≤ w.heap.size) : Calls Try.prog 82 #[.pointer (some ⟨B, 0, none⟩), x.val] w (Reads w B s d (repeated s t i) (TreeV base)) := by
  obtain ⟨w0, hw0⟩ : ∃ w0, w0 = w.alloc (.cells #[.int .i64 x.k, .int .u64 (Oct.word x.s 0 : Nat), .int .u64 (Oct.word x.s 1 : Nat), .int .u64 (Oct.word x.s 2 : Nat), .int .u64 (Oct.word x.s 3 : Nat), .slice x.a x.n x.c, .int .i64 x.mn, .int .i64 x.mx] 30) := ⟨_, rfl⟩
  obtain ⟨w1, hw1⟩ : ∃ w1, w1 = w0.alloc (.cells #[.int .i64 0, .int .u64 0, .int .u64 0, .int .u64 0, .int .u64 0, .slice none 0 0, .int .i64 0, .int .i64 0] 30) := ⟨_, rfl⟩
  have z0 : w0.heap.size = w.heap.size + 1 := by rw [hw0]; simp
  have k0 : Below w.heap.size w w0 := by rw [hw0]; exact (Below.refl _ _).alloc (Nat.le_refl _) _
  have k1 : Below w0.heap.size w0 w1 := by rw [hw1]; exact (Below.refl _ _).alloc (Nat.le_refl _) _
  have HS : Hid (Rp w s B w.heap.size (w.heap.size + 1) d base t x w1 i) :=
    ⟨by have hb0 : NB w0 w.heap.size x := (by rw [hw0]; exact nb_new w x); exact hb0.later k1, by have hb1 : NB w1 w0.heap.size zeroNd := (by rw [hw1]; exact nb_zero w0); rw [z0] at hb1; exact hb1, (h.later k0).later k1, grown_below (grown_below (grown_refl _ _) k0) k1, ((hn.keep (Y := fun b => base ≤ b ∧ b < w.heap.size) (fun b hb hlt => ⟨hb, hlt⟩) (fun _ _ _ => rfl)).later k0).later k1, Nat.le_refl _, by omega, hB, hbase⟩
  have HW1 : Hid (w0.alloc (.cells #[.int .i64 0, .int .u64 0, .int .u64 0, .int .u64 0, .int .u64 0, .slice none 0 0, .int .i64 0, .int .i64 0] 30) = w1) := hw1.symm
  have HW0 : Hid (w.alloc (.cells #[.int .i64 x.k, .int .u64 (Oct.word x.s 0 : Nat), .int .u64 (Oct.word x.s 1 : Nat), .int .u64 (Oct.word x.s 2 : Nat), .int .u64 (Oct.word x.s 3 : Nat), .slice x.a x.n x.c, .int .i64 x.mn, .int .i64 x.mx] 30) = w0) := hw0.symm
  obtain ⟨A, hA⟩ : ∃ A, A = w.heap.size := ⟨_, rfl⟩
  obtain ⟨R, hR⟩ : ∃ R, R = w.heap.size + 1 := ⟨_, rfl⟩
  rw [← hA] at HS
  rw [show A + 1 = R by omega] at HS
  have HAA : Hid (A = w.heap.size) := hA
  have HRR : Hid (R = w.heap.size + 1) := hR
  clear hw0 hw1 z0 k0 k1 h hn hA hR
  have HFIN : Hid (∀ (u : World) (j : Nat) (l m : Int), Rp w s B A R d base t x u j → j < s.size → repeated s t i = .ok (times t l m) (j + 1) →
      Reads w B s d (repeated s t i) (TreeV base) (.returned (Nd.val ⟨(5 : Nat), Oct.none, some ⟨u.heap.size, 0, none⟩, 1, 1, l, m⟩)) (put8 ((u.setCell ⟨B, 1, none⟩ (.int .i64 ((j : Int) + 1))).alloc (.cells #[.int .i64 x.k, .int .u64 (Oct.word x.s 0 : Nat), .int .u64 (Oct.word x.s 1 : Nat), .int .u64 (Oct.word x.s 2 : Nat), .int .u64 (Oct.word x.s 3 : Nat), .slice x.a x.n x.c, .int .i64 x.mn, .int .i64 x.mx] 30)) R ⟨(5 : Nat), Oct.none, some ⟨u.heap.size, 0, none⟩, 1, 1, l, m⟩)) := fun u j l m hrp hj he => by
    have hr1 : RB (u.setCell ⟨B, 1, none⟩ (.int .i64 ((j : Int) + 1))) B s (j + 1) d := hrp.rd.at (j + 1)
    have hp1 := hrp.read (grown_set u B 1 (.int .i64 ((j : Int) + 1))) hr1
    have hal := (Below.refl (u.setCell ⟨B, 1, none⟩ (.int .i64 ((j : Int) + 1))).heap.size (u.setCell ⟨B, 1, none⟩ (.int .i64 ((j : Int) + 1)))).alloc (Nat.le_refl _) (.cells #[.int .i64 x.k, .int .u64 (Oct.word x.s 0 : Nat), .int .u64 (Oct.word x.s 1 : Nat), .int .u64 (Oct.word x.s 2 : Nat), .int .u64 (Oct.word x.s 3 : Nat), .slice x.a x.n x.c, .int .i64 x.mn, .int .i64 x.mx] 30)
    have hp2 := hp1.later hal
    have hsz : (u.setCell ⟨B, 1, none⟩ (.int .i64 ((j : Int) + 1))).heap.size = u.heap.size := by simp [World.setCell]
    have hlt := hp1.box.lt
    have hrow := row_new (u := u.setCell ⟨B, 1, none⟩ (.int .i64 ((j : Int) + 1))) (X := fun b => base ≤ b ∧ b ≠ R) x ⟨by have := hrp.hA; have := hrp.hbase; omega, by have := hp1.res.lt; omega⟩
    rw [hsz] at hrow
    unfold Reads
    rw [he]
    refine ⟨by omega, _, rfl, ⟨_, rfl, ?_⟩, put8_rb hp2.rd (by have := hp2.hR; have := hp2.hB; have := hp2.hbase; omega) _, put8_grown hp2.grown hp2.hR _⟩
    have hnode := hp2.node
    have hRb := hp2.hR
    refine node_one 5 l m 1 (hrow.keep (fun b hb _ => hb.1) (fun b hb _ => heap_put8 _ R _ b hb.2)) ?_
    exact hnode.keep (fun b hb _ => hb.1) (fun b hb _ => heap_put8 _ R _ b (by omega))
  unfold Nd.val
  go_enter Try.func82, Try.ntmps82
  go_upto_region 1 with fail
  rw [HW0.out, HW1.out, ← HAA.out, show A + 1 = R by rw [HAA.out, HRR.out]]
  clear HW0 HW1 HAA HRR
  have HSw1 := HS
  clear HS
  go_wp2_with fail
  refine (sees_any B i d 42 s w1 HSw1.out.rd hi).mono ?_
  rintro e u1 ⟨rfl, kk⟩
  have HSu1 : Hid (Rp w s B A R d base t x u1 i) := HSw1.out.later kk
  clear kk HSw1
  cases h42 : sees s i 42 with
  | true =>
    have hlt : i < s.size := by unfold sees at h42; simp at h42; exact h42.1
    have HX : Hid (repeated s t i = .ok (times t 0 (-1)) (i + 1)) := by show _ = _; simp [repeated, h42]
    clear h42
    obtain ⟨c0, c1, c2⟩ := HSu1.out.rd.cells
    have f1 := HSu1.out.rd.frozen 1
    have hj3 : i ≤ 1024 := by omega
    have hjl : i < s.size := by omega
    have hRB : R ≠ B := by have := HSu1.out.hR; have := HSu1.out.hB; have := HSu1.out.hbase; omega
    have hAB : A ≠ B := by have := HSu1.out.hA; have := HSu1.out.hB; have := HSu1.out.hbase; omega
    have HBOX : Hid (NB (u1.setCell ⟨B, 1, none⟩ (.int .i64 ((i : Int) + 1))) A x) := HSu1.out.box.set hAB _ _
    have HRES : Hid (NB (u1.setCell ⟨B, 1, none⟩ (.int .i64 ((i : Int) + 1))) R zeroNd) := HSu1.out.res.set hRB _ _
    have HF := HFIN.out u1 i 0 (-1) HSu1.out hjl HX.out
    have HFH : Hid (Reads w B s d (repeated s t i) (TreeV base) _ _) := HF
    clear HF hRB hAB
    go_upto_region 11 with fail
    obtain ⟨u9, hu9⟩ : ∃ u9, u9 = u1.setCell ⟨B, 1, none⟩ (.int .i64 ((i : Int) + 1)) := ⟨_, rfl⟩
    have hsz9 : u9.heap.size = u1.heap.size := by rw [hu9]; simp [World.setCell]
    rw [← hu9] at HBOX HRES HFH ⊢
    rw [← hsz9] at HFH
    clear hu9 hsz9 c0 c1 c2 f1
    obtain ⟨b0, b1, b2, b3, b4, b5, b6, b7⟩ := HBOX.out.cells
    have hal : Below u9.heap.size u9 (u9.alloc (.cells #[.int .i64 x.k, .int .u64 (Oct.word x.s 0 : Nat), .int .u64 (Oct.word x.s 1 : Nat), .int .u64 (Oct.word x.s 2 : Nat), .int .u64 (Oct.word x.s 3 : Nat), .slice x.a x.n x.c, .int .i64 x.mn, .int .i64 x.mx] 30)) := (Below.refl _ _).alloc (Nat.le_refl _) _
    have HRES2 : Hid (NB (u9.alloc (.cells #[.int .i64 x.k, .int .u64 (Oct.word x.s 0 : Nat), .int .u64 (Oct.word x.s 1 : Nat), .int .u64 (Oct.word x.s 2 : Nat), .int .u64 (Oct.word x.s 3 : Nat), .slice x.a x.n x.c, .int .i64 x.mn, .int .i64 x.mx] 30)) R zeroNd) := HRES.out.later hal
    clear hal
    obtain ⟨z0, z1, z2, z3, z4, z5, z6, z7⟩ := HRES2.out.cells
    have y0 := HRES2.out.frozen 0
    have y1 := HRES2.out.frozen 1
    have y2 := HRES2.out.frozen 2
    have y3 := HRES2.out.frozen 3
    have y4 := HRES2.out.frozen 4
    have y5 := HRES2.out.frozen 5
    have y6 := HRES2.out.frozen 6
    have y7 := HRES2.out.frozen 7
    go_wp2
    show bodyPost _ _ _ _ _ (put8z _ R 5 (some ⟨u9.heap.size, 0, none⟩) 1 1 0 (-1))
    rw [put8z_eq]
    exact post_node Try.f82 4 rfl rfl rfl (HRES2.out.put8 _) HFH.out
  | false =>
    have H42 : Hid (sees s i 42 = false) := h42
    clear h42
    go_wp2_with fail
    refine (sees_any B i d 43 s u1 HSu1.out.rd hi).mono ?_
    rintro e u2 ⟨rfl, kk⟩
    have HSu2 : Hid (Rp w s B A R d base t x u2 i) := HSu1.out.later kk
    clear kk HSu1
    cases h43 : sees s i 43 with
    | true =>
      have hlt : i < s.size := by unfold sees at h43; simp at h43; exact h43.1
      have HX : Hid (repeated s t i = .ok (times t 1 (-1)) (i + 1)) := by show _ = _; simp [repeated, H42.out, h43]
      clear h43
      obtain ⟨c0, c1, c2⟩ := HSu2.out.rd.cells
      have f1 := HSu2.out.rd.frozen 1
      have hj3 : i ≤ 1024 := by omega
      have hjl : i < s.size := by omega
      have hRB : R ≠ B := by have := HSu2.out.hR; have := HSu2.out.hB; have := HSu2.out.hbase; omega
      have hAB : A ≠ B := by have := HSu2.out.hA; have := HSu2.out.hB; have := HSu2.out.hbase; omega
      have HBOX : Hid (NB (u2.setCell ⟨B, 1, none⟩ (.int .i64 ((i : Int) + 1))) A x) := HSu2.out.box.set hAB _ _
      have HRES : Hid (NB (u2.setCell ⟨B, 1, none⟩ (.int .i64 ((i : Int) + 1))) R zeroNd) := HSu2.out.res.set hRB _ _
      have HF := HFIN.out u2 i 1 (-1) HSu2.out hjl HX.out
      have HFH : Hid (Reads w B s d (repeated s t i) (TreeV base) _ _) := HF
      clear HF hRB hAB
      go_upto_region 11 with fail
      obtain ⟨u9, hu9⟩ : ∃ u9, u9 = u2.setCell ⟨B, 1, none⟩ (.int .i64 ((i : Int) + 1)) := ⟨_, rfl⟩
      have hsz9 : u9.heap.size = u2.heap.size := by rw [hu9]; simp [World.setCell]
      rw [← hu9] at HBOX HRES HFH ⊢
      rw [← hsz9] at HFH
      clear hu9 hsz9 c0 c1 c2 f1
      obtain ⟨b0, b1, b2, b3, b4, b5, b6, b7⟩ := HBOX.out.cells
      have hal : Below u9.heap.size u9 (u9.alloc (.cells #[.int .i64 x.k, .int .u64 (Oct.word x.s 0 : Nat), .int .u64 (Oct.word x.s 1 : Nat), .int .u64 (Oct.word x.s 2 : Nat), .int .u64 (Oct.word x.s 3 : Nat), .slice x.a x.n x.c, .int .i64 x.mn, .int .i64 x.mx] 30)) := (Below.refl _ _).alloc (Nat.le_refl _) _
      have HRES2 : Hid (NB (u9.alloc (.cells #[.int .i64 x.k, .int .u64 (Oct.word x.s 0 : Nat), .int .u64 (Oct.word x.s 1 : Nat), .int .u64 (Oct.word x.s 2 : Nat), .int .u64 (Oct.word x.s 3 : Nat), .slice x.a x.n x.c, .int .i64 x.mn, .int .i64 x.mx] 30)) R zeroNd) := HRES.out.later hal
      clear hal
      obtain ⟨z0, z1, z2, z3, z4, z5, z6, z7⟩ := HRES2.out.cells
      have y0 := HRES2.out.frozen 0
      have y1 := HRES2.out.frozen 1
      have y2 := HRES2.out.frozen 2
      have y3 := HRES2.out.frozen 3
      have y4 := HRES2.out.frozen 4
      have y5 := HRES2.out.frozen 5
      have y6 := HRES2.out.frozen 6
      have y7 := HRES2.out.frozen 7
      go_wp2
      show bodyPost _ _ _ _ _ (put8z _ R 5 (some ⟨u9.heap.size, 0, none⟩) 1 1 1 (-1))
      rw [put8z_eq]
      exact post_node Try.f82 4 rfl rfl rfl (HRES2.out.put8 _) HFH.out
    | false =>
      have H43 : Hid (sees s i 43 = false) := h43
      clear h43
      go_wp2_with fail
      refine (sees_any B i d 63 s u2 HSu2.out.rd hi).mono ?_
      rintro e u3 ⟨rfl, kk⟩
      have HSu3 : Hid (Rp w s B A R d base t x u3 i) := HSu2.out.later kk
      clear kk HSu2
      cases h63 : sees s i 63 with
      | true =>
        have hlt : i < s.size := by unfold sees at h63; simp at h63; exact h63.1
        have HX : Hid (repeated s t i = .ok (times t 0 1) (i + 1)) := by show _ = _; simp [repeated, H42.out, H43.out, h63]
        clear h63
        obtain ⟨c0, c1, c2⟩ := HSu3.out.rd.cells
        have f1 := HSu3.out.rd.frozen 1
        have hj3 : i ≤ 1024 := by omega
        have hjl : i < s.size := by omega
        have hRB : R ≠ B := by have := HSu3.out.hR; have := HSu3.out.hB; have := HSu3.out.hbase; omega
        have hAB : A ≠ B := by have := HSu3.out.hA; have := HSu3.out.hB; have := HSu3.out.hbase; omega
        have HBOX : Hid (NB (u3.setCell ⟨B, 1, none⟩ (.int .i64 ((i : Int) + 1))) A x) := HSu3.out.box.set hAB _ _
        have HRES : Hid (NB (u3.setCell ⟨B, 1, none⟩ (.int .i64 ((i : Int) + 1))) R zeroNd) := HSu3.out.res.set hRB _ _
        have HF := HFIN.out u3 i 0 1 HSu3.out hjl HX.out
        have HFH : Hid (Reads w B s d (repeated s t i) (TreeV base) _ _) := HF
        clear HF hRB hAB
        go_upto_region 11 with fail
        obtain ⟨u9, hu9⟩ : ∃ u9, u9 = u3.setCell ⟨B, 1, none⟩ (.int .i64 ((i : Int) + 1)) := ⟨_, rfl⟩
        have hsz9 : u9.heap.size = u3.heap.size := by rw [hu9]; simp [World.setCell]
        rw [← hu9] at HBOX HRES HFH ⊢
        rw [← hsz9] at HFH
        clear hu9 hsz9 c0 c1 c2 f1
        obtain ⟨b0, b1, b2, b3, b4, b5, b6, b7⟩ := HBOX.out.cells
        have hal : Below u9.heap.size u9 (u9.alloc (.cells #[.int .i64 x.k, .int .u64 (Oct.word x.s 0 : Nat), .int .u64 (Oct.word x.s 1 : Nat), .int .u64 (Oct.word x.s 2 : Nat), .int .u64 (Oct.word x.s 3 : Nat), .slice x.a x.n x.c, .int .i64 x.mn, .int .i64 x.mx] 30)) := (Below.refl _ _).alloc (Nat.le_refl _) _
        have HRES2 : Hid (NB (u9.alloc (.cells #[.int .i64 x.k, .int .u64 (Oct.word x.s 0 : Nat), .int .u64 (Oct.word x.s 1 : Nat), .int .u64 (Oct.word x.s 2 : Nat), .int .u64 (Oct.word x.s 3 : Nat), .slice x.a x.n x.c, .int .i64 x.mn, .int .i64 x.mx] 30)) R zeroNd) := HRES.out.later hal
        clear hal
        obtain ⟨z0, z1, z2, z3, z4, z5, z6, z7⟩ := HRES2.out.cells
        have y0 := HRES2.out.frozen 0
        have y1 := HRES2.out.frozen 1
        have y2 := HRES2.out.frozen 2
        have y3 := HRES2.out.frozen 3
        have y4 := HRES2.out.frozen 4
        have y5 := HRES2.out.frozen 5
        have y6 := HRES2.out.frozen 6
        have y7 := HRES2.out.frozen 7
        go_wp2
        show bodyPost _ _ _ _ _ (put8z _ R 5 (some ⟨u9.heap.size, 0, none⟩) 1 1 0 1)
        rw [put8z_eq]
        exact post_node Try.f82 4 rfl rfl rfl (HRES2.out.put8 _) HFH.out
      | false =>
        have H63 : Hid (sees s i 63 = false) := h63
        clear h63
        go_wp2_with fail
        refine (sees_any B i d 123 s u3 HSu3.out.rd hi).mono ?_
        rintro e u4 ⟨rfl, kk⟩
        have HSu4 : Hid (Rp w s B A R d base t x u4 i) := HSu3.out.later kk
        clear kk HSu3
        cases h123 : sees s i 123 with
        | true =>
          have hlt : i < s.size := by unfold sees at h123; simp at h123; exact h123.1
          have HX0 : Hid (repeated s t i = match counts s i with
            | .ok (l, m) j => .ok (times t l m) (j + 1)
            | .bad a e => .bad a e
            | .out => .out) := by show _ = _; simp only [repeated, H42.out, H43.out, H63.out, h123]; rfl
          clear h123
          go_wp2_with fail
          refine (counts_any B i d s u4 HSu4.out.rd hlt hs).mono ?_
          intro e u5 h5
          cases hc : counts s i with
          | out => rw [hc] at h5; exact h5.elim
          | bad a c =>
            rw [hc] at h5 HX0
            obtain ⟨rfl, hg5⟩ := h5
            have HG5 : Hid (w.grownBy u5 (some B)) := grown_trans HSu4.out.grown hg5
            clear hc hg5
            go_wp2
            refine ⟨rfl, ?_⟩
            unfold Reads
            rw [HX0.out]
            exact ⟨rfl, HG5.out⟩
          | ok lm j =>
            obtain ⟨l, m⟩ := lm
            rw [hc] at h5 HX0
            obtain ⟨hj, v, rfl, rfl, hr5, hg5⟩ := h5
            have HSu5 : Hid (Rp w s B A R d base t x u5 j) := HSu4.out.read hg5 hr5
            have HX : Hid (repeated s t i = .ok (times t l m) (j + 1)) := HX0
            have hjlt : j < s.size := counts_lt hc
            clear hc hr5 hg5 HX0 HSu4
            obtain ⟨c0, c1, c2⟩ := HSu5.out.rd.cells
            have f1 := HSu5.out.rd.frozen 1
            have hj3 : j ≤ 1024 := by omega
            have hjl : j < s.size := by omega
            have hRB : R ≠ B := by have := HSu5.out.hR; have := HSu5.out.hB; have := HSu5.out.hbase; omega
            have hAB : A ≠ B := by have := HSu5.out.hA; have := HSu5.out.hB; have := HSu5.out.hbase; omega
            have HBOX : Hid (NB (u5.setCell ⟨B, 1, none⟩ (.int .i64 ((j : Int) + 1))) A x) := HSu5.out.box.set hAB _ _
            have HRES : Hid (NB (u5.setCell ⟨B, 1, none⟩ (.int .i64 ((j : Int) + 1))) R zeroNd) := HSu5.out.res.set hRB _ _
            have HF := HFIN.out u5 j l m HSu5.out hjl HX.out
            have HFH : Hid (Reads w B s d (repeated s t i) (TreeV base) _ _) := HF
            clear HF hRB hAB
            go_upto_region 11 with fail
            obtain ⟨u9, hu9⟩ : ∃ u9, u9 = u5.setCell ⟨B, 1, none⟩ (.int .i64 ((j : Int) + 1)) := ⟨_, rfl⟩
            have hsz9 : u9.heap.size = u5.heap.size := by rw [hu9]; simp [World.setCell]
            rw [← hu9] at HBOX HRES HFH ⊢
            rw [← hsz9] at HFH
            clear hu9 hsz9 c0 c1 c2 f1
            obtain ⟨b0, b1, b2, b3, b4, b5, b6, b7⟩ := HBOX.out.cells
            have hal : Below u9.heap.size u9 (u9.alloc (.cells #[.int .i64 x.k, .int .u64 (Oct.word x.s 0 : Nat), .int .u64 (Oct.word x.s 1 : Nat), .int .u64 (Oct.word x.s 2 : Nat), .int .u64 (Oct.word x.s 3 : Nat), .slice x.a x.n x.c, .int .i64 x.mn, .int .i64 x.mx] 30)) := (Below.refl _ _).alloc (Nat.le_refl _) _
            have HRES2 : Hid (NB (u9.alloc (.cells #[.int .i64 x.k, .int .u64 (Oct.word x.s 0 : Nat), .int .u64 (Oct.word x.s 1 : Nat), .int .u64 (Oct.word x.s 2 : Nat), .int .u64 (Oct.word x.s 3 : Nat), .slice x.a x.n x.c, .int .i64 x.mn, .int .i64 x.mx] 30)) R zeroNd) := HRES.out.later hal
            clear hal
            obtain ⟨z0, z1, z2, z3, z4, z5, z6, z7⟩ := HRES2.out.cells
            have y0 := HRES2.out.frozen 0
            have y1 := HRES2.out.frozen 1
            have y2 := HRES2.out.frozen 2
            have y3 := HRES2.out.frozen 3
            have y4 := HRES2.out.frozen 4
            have y5 := HRES2.out.frozen 5
            have y6 := HRES2.out.frozen 6
            have y7 := HRES2.out.frozen 7
            go_wp2
            show bodyPost _ _ _ _ _ (put8z _ R 5 (some ⟨u9.heap.size, 0, none⟩) 1 1 l m)
            rw [put8z_eq]
            exact post_node Try.f82 4 rfl rfl rfl (HRES2.out.put8 _) HFH.out
        | false =>
          have HX : Hid (repeated s t i = .ok t i) := by show _ = _; simp [repeated, H42.out, H43.out, H63.out, h123]
          clear h123
          obtain ⟨b0, b1, b2, b3, b4, b5, b6, b7⟩ := HSu4.out.box.cells
          obtain ⟨z0, z1, z2, z3, z4, z5, z6, z7⟩ := HSu4.out.res.cells
          have y0 := HSu4.out.res.frozen 0
          have y1 := HSu4.out.res.frozen 1
          have y2 := HSu4.out.res.frozen 2
          have y3 := HSu4.out.res.frozen 3
          have y4 := HSu4.out.res.frozen 4
          have y5 := HSu4.out.res.frozen 5
          have y6 := HSu4.out.res.frozen 6
          have y7 := HSu4.out.res.frozen 7
          go_wp2
          refine post_node Try.f82 4 rfl rfl rfl (HSu4.out.res.put8 x) ?_
          unfold Reads
          rw [HX.out]
          have hRb := HSu4.out.hR
          have hBb := HSu4.out.hB
          have hbb := HSu4.out.hbase
          exact ⟨hi, _, rfl, ⟨_, rfl, HSu4.out.node.keep (fun b hb _ => hb.1) (fun b hb _ => heap_put8 _ R _ b (by omega))⟩, put8_rb HSu4.out.rd (by omega) _, put8_grown HSu4.out.grown hRb _⟩
end Go.Proofs.Ytjmbimgofceanaa

/- The contracts of the reader's own recursion, said level by level; the state of its loops that gather nodes. -/
namespace Go.Proofs.Ytjmbimgofceanaa
open Go.RowKit

/-- what is asked of the world ahead of a method -/
structure Pre (w : World) (B : Nat) (s : ByteArray) (i d : Nat) : Prop where
  rd : RB w B s i d
  hi : i ≤ s.size
  hs : s.size ≤ 1024
  gm : GM w
  hB0 : B ≠ 0
  hd : d ≤ 64
def PatOK (n : Nat) : Prop := ∀ (B i d : Nat) (s : ByteArray) (w : World), Pre w B s i d → pat s n d i ≠ .out → Calls Try.prog 65 #[.pointer (some ⟨B, 0, none⟩)] w (Reads w B s d (pat s n d i) (TreeV w.heap.size))
def AltOK (n : Nat) : Prop := ∀ (B i d : Nat) (s : ByteArray) (w : World), Pre w B s i d → alt s n d i ≠ .out → Calls Try.prog 75 #[.pointer (some ⟨B, 0, none⟩)] w (Reads w B s d (alt s n d i) (TreeV w.heap.size))
def PieceOK (n : Nat) : Prop := ∀ (B i d : Nat) (s : ByteArray) (w : World), Pre w B s i d → i < s.size → piece s n d i ≠ .out → Calls Try.prog 81 #[.pointer (some ⟨B, 0, none⟩)] w (Reads w B s d (piece s n d i) (TreeV w.heap.size))
def AtomOK (n : Nat) : Prop := ∀ (B i d : Nat) (s : ByteArray) (w : World), Pre w B s i d → i < s.size → atom s n d i ≠ .out → Calls Try.prog 83 #[.pointer (some ⟨B, 0, none⟩)] w (Reads w B s d (atom s n d i) (TreeV w.heap.size))
def GroupOK (n : Nat) : Prop := ∀ (B i d : Nat) (s : ByteArray) (w : World), Pre w B s i d → i < s.size → group s n d i ≠ .out → Calls Try.prog 85 #[.pointer (some ⟨B, 0, none⟩)] w (Reads w B s d (group s n d i) (TreeV w.heap.size))
/-- THE STATE of a loop that gathers nodes. -/
structure Pt (w : World) (s : ByteArray) (B R d : Nat) (u : World) (i : Nat) (V : Value) (ts : List Tr) : Prop where
  res : NB u R zeroNd
  rd : RB u B s i d
  gm : GM u
  grown : w.grownBy u (some B)
  nodes : Nodes u (w.heap.size + 1) V ts
  hR : R = w.heap.size
  hB : B < w.heap.size
  hB0 : B ≠ 0
section
variable {w : World} {s : ByteArray} {B R d : Nat} {u u' : World} {i : Nat} {V : Value} {ts : List Tr}
theorem Pt.later (h : Pt w s B R d u i V ts) (hb : Below u.heap.size u u') : Pt w s B R d u' i V ts :=
  ⟨h.res.later hb, h.rd.later hb, h.gm.later hb, grown_below h.grown hb, h.nodes.keep (fun b _ hlt => hb.block b hlt), h.hR, h.hB, h.hB0⟩
theorem Pt.read (h : Pt w s B R d u i V ts) {j : Nat} (hg : u.grownBy u' (some B)) (hr : RB u' B s j d) : Pt w s B R d u' j V ts := by
  have h1 := h.hR
  have h2 := h.hB
  exact ⟨h.res.grown hg (by simp; omega), hr, h.gm.grown hg h.hB0, grown_trans h.grown hg, h.nodes.keep (fun b hb hlt => hg.block b hlt (by simp; omega)), h1, h2, h.hB0⟩
theorem Pt.size (h : Pt w s B R d u i V ts) : w.heap.size + 1 ≤ u.heap.size := by have := h.res.lt; have := h.hR; omega
/-- another list -/
theorem Pt.more (h : Pt w s B R d u i V ts) {V' : Value} {ts' : List Tr} (hn : Nodes u' (w.heap.size + 1) V' ts') (hg : u.grownBy u' V.ownBlock) (hb : ∀ k, V.ownBlock = some k → w.heap.size + 1 ≤ k) : Pt w s B R d u' i V' ts' := by
  have h1 := h.hR
  have h2 := h.hB
  have hlow : ∀ k, k < w.heap.size + 1 → k < u.heap.size → u'.heap[k]? = u.heap[k]? := fun k hk hlt => hg.block k hlt (fun e => by have := hb k e.symm; omega)
  refine ⟨(hlow R (by omega) h.res.lt).trans h.res, (hlow B (by omega) h.rd.lt).trans h.rd, ?_, ?_, hn, h1, h2, h.hB0⟩
  · obtain ⟨m, hm⟩ := h.gm
    exact ⟨m, by rw [World.cell?_of_block (w := u) (hlow 0 (by omega) (World.block_lt_of_cell? u _ hm))]; exact hm⟩
  · exact ⟨hg.os.trans h.grown.os, hg.tape.trans h.grown.tape, hg.output.trans h.grown.output, Nat.le_trans h.grown.size hg.size, fun k hk hne => (hlow k (by omega) (Nat.lt_of_lt_of_le hk h.grown.size)).trans (h.grown.block k hk hne)⟩
end
theorem pre_of {w : World} {s : ByteArray} {B R d : Nat} {u : World} {i : Nat} {V : Value} {ts : List Tr} (h : Pt w s B R d u i V ts) (hi : i ≤ s.size) (hs : s.size ≤ 1024) (hd : d ≤ 64) : Pre u B s i d := ⟨h.rd, hi, hs, h.gm, h.hB0, hd⟩
theorem wpList_append_node {w : World} {ops : Array Oper} {rest : List Oper} {o : Oper} {a : Act} {Q : Exit → Act → World → Prop} (hgd : o.guard = none) (s y : Operand)
    (ho : o.op = .call { callee := .builtin .append, args := #[s, y], argTypes := #[28, 28] })
    (base : Nat) (V : Value) (ts : List Tr) (hs : a.eval s = V) (hn : Nodes w base V ts) (ad : Addr) (cap : Nat) (x : Nd) (t : Tr) (hy : a.eval y = .slice (some ad) 1 cap) (hx : NodeAt (fun b => base ≤ b ∧ V.ownBlock ≠ some b) w t x) (hc : ∀ j v, x.cells[j]? = some v → w.cell? (ad.add j) = some v) (hl : ts.length ≤ 100000) (hb : base ≤ w.heap.size)
    (h : ∀ g cap' w', Nodes w' base (.slice (some ⟨g, 0, none⟩) (ts.length + 1) cap') (ts ++ [t]) → w.grownBy w' V.ownBlock → (∀ k, V.ownBlock = some k → base ≤ k) → wpList Try.prog ops Q rest (a.put o.dst (.slice (some ⟨g, 0, none⟩) (ts.length + 1) cap')) w') : wpList Try.prog ops Q (o :: rest) a w := by
  refine wpList_plain hgd fun K hK => ?_
  obtain ⟨g, cap', w', hr, h2, h3, h4⟩ := run_append_node w o.type base V ts hn ad cap x t hx hc hl hb
  unfold Oper.wp execOp
  simp only [ho, resolve, invoke, builtin, Sem.run_bind, Sem.run_pure, Result.andThen_ok, List.map_toArray, List.map_cons, List.map_nil, hs, hy, hr]
  exact hK _ _ (h g cap' w' h2 h3 h4)
/-- the cells of a node in a new block -/
theorem cells_new (u : World) (x : Nd) : ∀ j v, x.cells[j]? = some v → (u.alloc (.cells #[.int .i64 x.k, .int .u64 (Oct.word x.s 0 : Nat), .int .u64 (Oct.word x.s 1 : Nat), .int .u64 (Oct.word x.s 2 : Nat), .int .u64 (Oct.word x.s 3 : Nat), .slice x.a x.n x.c, .int .i64 x.mn, .int .i64 x.mx] 30)).cell? ((⟨u.heap.size, 0, none⟩ : Addr).add j) = some v := by
  intro j v hj
  rw [Go.WideShapes.add_plain, Nat.zero_add, World.cell?_alloc_mark]
  simpa [Nd.cells] using hj
/-- a list of one node, as it is made -/
theorem nodes_one {u : World} {base : Nat} {t : Tr} {x : Nd} (hx : NodeAt (fun b => base ≤ b) u t x) (hb : base ≤ u.heap.size) : Nodes (u.alloc (.cells #[.int .i64 x.k, .int .u64 (Oct.word x.s 0 : Nat), .int .u64 (Oct.word x.s 1 : Nat), .int .u64 (Oct.word x.s 2 : Nat), .int .u64 (Oct.word x.s 3 : Nat), .slice x.a x.n x.c, .int .i64 x.mn, .int .i64 x.mx] 30)) base (.slice (some ⟨u.heap.size, 0, none⟩) 1 1) [t] := by
  refine ⟨[x], rfl, ⟨by rw [flatN_length]; rfl, Or.inr ⟨u.heap.size, 1, _, rfl, hb, heap_alloc_new u _, Nat.le_refl _, by simp [maxLen], rfl, by simp [flatN, Nd.cells]⟩⟩, fun e => by simp at e, fun _ => ⟨_, _, rfl⟩, fun i t' v' h1 h2 => ?_⟩
  cases i with
  | zero =>
    simp at h1 h2
    subst h1 h2
    exact hx.keep (fun b hb2 hlt => ⟨hb2, by simp [Value.ownBlock]; omega⟩) (fun b _ hlt => ((Below.refl _ u).alloc (Nat.le_refl _) _).block b hlt)
  | succ i => simp at h1
end Go.Proofs.Ytjmbimgofceanaa

/- What is read goes on: the places behind it. -/
namespace Go.Proofs.Ytjmbimgofceanaa

theorem count_ge {s : ByteArray} {o i n j : Nat} (h : count s o i = .ok n j) : i ≤ j := (count_ok_le h).2
theorem countsEnd_ge {s : ByteArray} {o k j : Nat} {l m : Int} {x : Int × Int} (h : countsEnd s o l m k = .ok x j) : j = k := by
  unfold countsEnd at h
  split at h
  · cases h; rfl
  · cases h
theorem counts_ge {s : ByteArray} {i j : Nat} {x : Int × Int} (h : counts s i = .ok x j) : i < j := by
  unfold counts at h
  split at h
  · rename_i l k hc
    have h1 := count_ge hc
    split at h
    · split at h
      · have := countsEnd_ge h; omega
      · split at h
        · rename_i m k2 hc2
          have h2 := count_ge hc2
          have := countsEnd_ge h
          omega
        · cases h
        · cases h
    · have := countsEnd_ge h; omega
  · cases h
  · cases h
theorem repeated_ge {s : ByteArray} {t u : Tr} {i j : Nat} (h : repeated s t i = .ok u j) : i ≤ j := by
  unfold repeated at h
  split at h
  · cases h; omega
  · split at h
    · cases h; omega
    · split at h
      · cases h; omega
      · split at h
        · split at h
          · rename_i l m k hc
            cases h
            have := counts_ge hc
            omega
          · cases h
          · cases h
        · cases h; omega
theorem item_ge {s : ByteArray} {o i j : Nat} {x : Oct.S} (h : item s o i = .ok x j) : i < j := by
  unfold item at h
  split at h
  · cases h
  · split at h
    · unfold class_ at h
      split at h
      · split at h
        · cases h; omega
        · cases h
      · cases h
    · split at h
      · cases h
      · split at h
        · unfold span_ at h
          split at h
          · cases h
          · cases h; omega
        · cases h; omega
theorem setLoop_ge {s : ByteArray} {o f i j : Nat} {a x : Oct.S} (h : setLoop s o f a i = .ok x j) : i < j := by
  induction f generalizing a i with
  | zero => simp [setLoop] at h
  | succ f ih =>
    rw [setLoop] at h
    split at h
    · cases h; omega
    · split at h
      · rename_i b k hc
        have := item_ge hc
        have := ih h
        omega
      · cases h
      · cases h
theorem setOf_ge {s : ByteArray} {f i j : Nat} {x : Oct.S} (h : setOf s f i = .ok x j) : i < j := by
  unfold setOf at h
  split at h
  · rename_i a k hc
    have h1 := item_ge hc
    have h2 : i < k := by
      split at h1 <;> omega
    split at h
    · rename_i b k2 hc2
      cases h
      have := setLoop_ge hc2
      omega
    · cases h
    · cases h
  · cases h
  · cases h
theorem read_ge (s : ByteArray) (n : Nat) : (∀ d i t j, pat s n d i = .ok t j → i ≤ j) ∧ (∀ d acc i t j, patLoop s n d acc i = .ok t j → i ≤ j) ∧ (∀ d i t j, alt s n d i = .ok t j → i ≤ j) ∧ (∀ d acc i t j, altLoop s n d acc i = .ok t j → i ≤ j) ∧ (∀ d i t j, piece s n d i = .ok t j → i < j) ∧ (∀ d i t j, atom s n d i = .ok t j → i < j) ∧ (∀ d i t j, group s n d i = .ok t j → i < j) := by
  induction n with
  | zero => refine ⟨?_, ?_, ?_, ?_, ?_, ?_, ?_⟩ <;> intros <;> rename_i h <;> simp [pat, patLoop, alt, altLoop, piece, atom, group] at h
  | succ n ih =>
    obtain ⟨i1, i2, i3, i4, i5, i6, i7⟩ := ih
    refine ⟨fun d i t j h => ?_, fun d acc i t j h => ?_, fun d i t j h => ?_, fun d acc i t j h => ?_, fun d i t j h => ?_, fun d i t j h => ?_, fun d i t j h => ?_⟩
    · rw [pat] at h
      split at h
      · rename_i t1 k hc
        have := i3 _ _ _ _ hc
        have := i2 _ _ _ _ _ h
        omega
      · cases h
      · cases h
    · rw [patLoop] at h
      split at h
      · split at h
        · rename_i t1 k hc
          have := i3 _ _ _ _ hc
          have := i2 _ _ _ _ _ h
          omega
        · cases h
        · cases h
      · cases h; omega
    · rw [alt] at h
      exact i4 _ _ _ _ _ h
    · rw [altLoop] at h
      split at h
      · split at h
        · rename_i t1 k hc
          have := i5 _ _ _ _ hc
          have := i4 _ _ _ _ _ h
          omega
        · cases h
        · cases h
      · cases h; omega
    · rw [piece] at h
      split at h
      · cases h; omega
      · split at h
        · cases h; omega
        · split at h
          · rename_i t1 k hc
            have := i6 _ _ _ _ hc
            have := repeated_ge h
            omega
          · cases h
          · cases h
    · rw [atom] at h
      split at h
      · cases h
      · split at h
        · exact i7 _ _ _ _ h
        · split at h
          · split at h
            · rename_i a k hc
              cases h
              exact setOf_ge hc
            · cases h
            · cases h
          · split at h
            · cases h; omega
            · split at h
              · split at h
                · cases h
                · cases h; omega
              · cases h; omega
    · rw [group] at h
      split at h
      · cases h
      · split at h
        · rename_i t1 k hc
          have := i1 _ _ _ _ hc
          split at h
          · cases h
          · cases h; omega
        · cases h
        · cases h
end Go.Proofs.Ytjmbimgofceanaa

/- ere's alternative. -/
namespace Go.Proofs.Ytjmbimgofceanaa
open Go.RowKit
attribute [local go_sem ↓] Go.wp_at_zero Go.wp_at_succ

theorem Nodes.blt {w : World} {base : Nat} {V : Value} {ts : List Tr} (h : Nodes w base V ts) : ∀ b, V.ownBlock = some b → b < w.heap.size := by
  obtain ⟨vs, h1, h2, h3, h4, h5⟩ := h
  intro b hb
  rcases h2.2 with ⟨rfl, _⟩ | ⟨g, cap, cur, rfl, _, hg, _⟩
  · simp [Value.ownBlock] at hb
  · simp [Value.ownBlock] at hb
    have := (Array.getElem?_eq_some_iff.1 hg).1
    omega
set_option maxRecDepth 4000 in
set_option maxHeartbeats 4000000 in
theorem alt_walk (n : Nat) (H : ∀ m, m < n → PieceOK m) : AltOK n := by
  intro B i d s w pre hout
  obtain ⟨k, rfl⟩ : ∃ k, n = k + 1 := by
    cases n with
    | zero => exact absurd (by simp [alt]) hout
    | succ k => exact ⟨k, rfl⟩
  have HO : Hid (alt s (k + 1) d i ≠ .out) := hout
  have HP : Hid (∀ m, m < k + 1 → PieceOK m) := H
  have hi := pre.hi
  have hs := pre.hs
  have hd := pre.hd
  have hal : Below w.heap.size w (w.alloc (.cells #[.int .i64 0, .int .u64 0, .int .u64 0, .int .u64 0, .int .u64 0, .slice none 0 0, .int .i64 0, .int .i64 0] 30)) := (Below.refl _ _).alloc (Nat.le_refl _) _
  have HS : Hid (Pt w s B w.heap.size d (w.alloc (.cells #[.int .i64 0, .int .u64 0, .int .u64 0, .int .u64 0, .int .u64 0, .slice none 0 0, .int .i64 0, .int .i64 0] 30)) i (.slice none 0 0) []) :=
    ⟨nb_zero w, pre.rd.later hal, pre.gm.later hal, grown_below (grown_refl _ _) hal, nodes_nil _ _, rfl, pre.rd.lt, pre.hB0⟩
  obtain ⟨w1, hw1⟩ : ∃ w1, w1 = w.alloc (.cells #[.int .i64 0, .int .u64 0, .int .u64 0, .int .u64 0, .int .u64 0, .slice none 0 0, .int .i64 0, .int .i64 0] 30) := ⟨_, rfl⟩
  obtain ⟨R, hR⟩ : ∃ R, R = w.heap.size := ⟨_, rfl⟩
  rw [← hw1, ← hR] at HS
  have HW1 : Hid (w1 = _) := hw1
  have HRR : Hid (R = _) := hR
  clear hw1 hR hal pre hout H
  go_enter Try.func75, Try.ntmps75
  go_upto_region 1 with fail
  rw [← HW1.out, ← HRR.out]
  clear HW1
  go_wp2_with fail
  go_loopw [3] (fun V u => ∃ (m : Nat) (ts : List Tr) (j : Nat), m < k + 1 ∧ j ≤ s.size ∧ ts.length ≤ j ∧ Hid (Pt w s B R d u j V ts) ∧ Hid (alt s (k + 1) d i = altLoop s m d ts j)) (fun _ u => 4000 - (intOf ((u.cell? ⟨B, 1, none⟩).getD undef)).toNat)
  case atStart => exact ⟨k, [], i, by omega, hi, by simp, HS, by show _ = _; rw [alt]⟩
  case round =>
    clear HS
    obtain ⟨m, ts, j, hm, hj, htl, hpt, hal⟩ := hrel
    have HM : Hid (4000 - (intOf ((wr.cell? ⟨B, 1, none⟩).getD undef)).toNat = 4000 - j) := by show _ = _; rw [hpt.out.rd.cells.2.1]; simp [intOf]
    obtain ⟨m, rfl⟩ : ∃ m', m = m' + 1 := by
      cases m with
      | zero => exact absurd (hal.out.trans (by simp [altLoop])) HO.out
      | succ m => exact ⟨m, rfl⟩
    have HEND : Hid ((decide (j < s.size) && !(sees s j 124) && !(sees s j 41)) = false → alt s (k + 1) d i = .ok (together 3 ts) j) := fun h => by rw [hal.out, altLoop, h]; rfl
    go_wp2_with fail
    refine (ended_any B j d s wr hpt.out.rd).mono ?_
    rintro e u1 ⟨rfl, kk⟩
    have HS1 : Hid (Pt w s B R d u1 j _ ts) := hpt.out.later kk
    clear kk
    by_cases hend : j = s.size
    · have HX : Hid (alt s (k + 1) d i = .ok (together 3 ts) j) := HEND.out (by simp [hend])
      rw [decide_eq_true hend]
      clear hend
      go_wp2_with fail
      refine (together_any 3 (w.heap.size + 1) _ ts u1 HS1.out.nodes (by omega)).mono ?_
      rintro e u7 ⟨⟨v, rfl, x, rfl, hx⟩, kk⟩
      have HS7 : Hid (Pt w s B R d u7 j _ ts) := HS1.out.later kk
      have HX7 : Hid (NodeAt (fun b => w.heap.size + 1 ≤ b) u7 (together 3 ts) x) := hx
      clear kk hx HS1
      obtain ⟨z0, z1, z2, z3, z4, z5, z6, z7⟩ := HS7.out.res.cells
      have y0 := HS7.out.res.frozen 0
      have y1 := HS7.out.res.frozen 1
      have y2 := HS7.out.res.frozen 2
      have y3 := HS7.out.res.frozen 3
      have y4 := HS7.out.res.frozen 4
      have y5 := HS7.out.res.frozen 5
      have y6 := HS7.out.res.frozen 6
      have y7 := HS7.out.res.frozen 7
      unfold Nd.val
      go_wp2
      refine post_node Try.f75 2 rfl rfl rfl (HS7.out.res.put8 x) ?_
      unfold Reads
      rw [HX.out]
      have hRb := HS7.out.hR
      have hBb := HS7.out.hB
      exact ⟨hj, _, rfl, ⟨_, rfl, HX7.out.keep (fun b hb _ => by omega) (fun b hb _ => heap_put8 _ R _ b (by omega))⟩, put8_rb HS7.out.rd (by omega) _, put8_grown HS7.out.grown (by omega) _⟩
    · have hlt : j < s.size := by omega
      rw [decide_eq_false hend]
      clear hend
      go_wp2_with fail
      refine (sees_any B j d 124 s u1 HS1.out.rd hj).mono ?_
      rintro e u2 ⟨rfl, kk⟩
      have HS2 : Hid (Pt w s B R d u2 j _ ts) := HS1.out.later kk
      clear kk HS1
      cases h124 : sees s j 124 with
      | true =>
        have HX : Hid (alt s (k + 1) d i = .ok (together 3 ts) j) := HEND.out (by simp [h124])
        have HS1 := HS2
        clear h124 HS2
        go_wp2_with fail
        refine (together_any 3 (w.heap.size + 1) _ ts u2 HS1.out.nodes (by omega)).mono ?_
        rintro e u7 ⟨⟨v, rfl, x, rfl, hx⟩, kk⟩
        have HS7 : Hid (Pt w s B R d u7 j _ ts) := HS1.out.later kk
        have HX7 : Hid (NodeAt (fun b => w.heap.size + 1 ≤ b) u7 (together 3 ts) x) := hx
        clear kk hx HS1
        obtain ⟨z0, z1, z2, z3, z4, z5, z6, z7⟩ := HS7.out.res.cells
        have y0 := HS7.out.res.frozen 0
        have y1 := HS7.out.res.frozen 1
        have y2 := HS7.out.res.frozen 2
        have y3 := HS7.out.res.frozen 3
        have y4 := HS7.out.res.frozen 4
        have y5 := HS7.out.res.frozen 5
        have y6 := HS7.out.res.frozen 6
        have y7 := HS7.out.res.frozen 7
        unfold Nd.val
        go_wp2
        refine post_node Try.f75 2 rfl rfl rfl (HS7.out.res.put8 x) ?_
        unfold Reads
        rw [HX.out]
        have hRb := HS7.out.hR
        have hBb := HS7.out.hB
        exact ⟨hj, _, rfl, ⟨_, rfl, HX7.out.keep (fun b hb _ => by omega) (fun b hb _ => heap_put8 _ R _ b (by omega))⟩, put8_rb HS7.out.rd (by omega) _, put8_grown HS7.out.grown (by omega) _⟩
      | false =>
        have H124 : Hid (sees s j 124 = false) := h124
        clear h124
        go_wp2_with fail
        refine (sees_any B j d 41 s u2 HS2.out.rd hj).mono ?_
        rintro e u3 ⟨rfl, kk⟩
        have HS3 : Hid (Pt w s B R d u3 j _ ts) := HS2.out.later kk
        clear kk HS2
        cases h41 : sees s j 41 with
        | true =>
          have HX : Hid (alt s (k + 1) d i = .ok (together 3 ts) j) := HEND.out (by simp [h41])
          have HS1 := HS3
          clear h41 HS3
          go_wp2_with fail
          refine (together_any 3 (w.heap.size + 1) _ ts u3 HS1.out.nodes (by omega)).mono ?_
          rintro e u7 ⟨⟨v, rfl, x, rfl, hx⟩, kk⟩
          have HS7 : Hid (Pt w s B R d u7 j _ ts) := HS1.out.later kk
          have HX7 : Hid (NodeAt (fun b => w.heap.size + 1 ≤ b) u7 (together 3 ts) x) := hx
          clear kk hx HS1
          obtain ⟨z0, z1, z2, z3, z4, z5, z6, z7⟩ := HS7.out.res.cells
          have y0 := HS7.out.res.frozen 0
          have y1 := HS7.out.res.frozen 1
          have y2 := HS7.out.res.frozen 2
          have y3 := HS7.out.res.frozen 3
          have y4 := HS7.out.res.frozen 4
          have y5 := HS7.out.res.frozen 5
          have y6 := HS7.out.res.frozen 6
          have y7 := HS7.out.res.frozen 7
          unfold Nd.val
          go_wp2
          refine post_node Try.f75 2 rfl rfl rfl (HS7.out.res.put8 x) ?_
          unfold Reads
          rw [HX.out]
          have hRb := HS7.out.hR
          have hBb := HS7.out.hB
          exact ⟨hj, _, rfl, ⟨_, rfl, HX7.out.keep (fun b hb _ => by omega) (fun b hb _ => heap_put8 _ R _ b (by omega))⟩, put8_rb HS7.out.rd (by omega) _, put8_grown HS7.out.grown (by omega) _⟩
        | false =>
          have HGO : Hid (alt s (k + 1) d i = match piece s m d j with
            | .ok t j' => altLoop s m d (ts ++ [t]) j'
            | .bad a e => .bad a e
            | .out => .out) := by
            show _ = _
            rw [hal.out, altLoop, H124.out, h41, decide_eq_true hlt]
            rfl
          clear h41
          go_wp2_with fail
          have hpo : piece s m d j ≠ .out := fun e => HO.out (by rw [HGO.out, e])
          refine (HP.out m (by omega) B j d s u3 (pre_of HS3.out hj hs hd) hlt hpo).mono ?_
          intro e u4 h4
          clear hpo
          cases hc : piece s m d j with
          | out => rw [hc] at h4; exact h4.elim
          | bad a c =>
            rw [hc] at h4 HGO
            obtain ⟨rfl, hg4⟩ := h4
            have HG4 : Hid (w.grownBy u4 (some B)) := grown_trans HS3.out.grown hg4
            clear hc hg4
            go_wp2
            refine ⟨rfl, ?_⟩
            unfold Reads
            rw [HGO.out]
            exact ⟨rfl, HG4.out⟩
          | ok t j' =>
            have hjj := (read_ge s m).2.2.2.2.1 _ _ _ _ hc
            rw [hc] at h4 HGO
            obtain ⟨hj', v, rfl, ⟨x, rfl, hx⟩, hr4, hg4⟩ := h4
            have HS4 : Hid (Pt w s B R d u4 j' _ ts) := HS3.out.read hg4 hr4
            have hu3 := HS3.out.size
            have hvb : ∀ b, Value.ownBlock _ = some b → b < u3.heap.size := Nodes.blt HS3.out.nodes
            have hx5 := hx.keep (Y := fun b => w.heap.size + 1 ≤ b ∧ Value.ownBlock _ ≠ some b) (w' := u4.alloc (.cells #[.int .i64 x.k, .int .u64 (Oct.word x.s 0 : Nat), .int .u64 (Oct.word x.s 1 : Nat), .int .u64 (Oct.word x.s 2 : Nat), .int .u64 (Oct.word x.s 3 : Nat), .slice x.a x.n x.c, .int .i64 x.mn, .int .i64 x.mx] 30)) (fun b hb _ => ⟨by omega, fun e => by have := hvb b e; omega⟩) (fun b _ hlt => ((Below.refl _ u4).alloc (Nat.le_refl _) _).block b hlt)
            have hS5 := HS4.out.later ((Below.refl _ u4).alloc (Nat.le_refl _) (.cells #[.int .i64 x.k, .int .u64 (Oct.word x.s 0 : Nat), .int .u64 (Oct.word x.s 1 : Nat), .int .u64 (Oct.word x.s 2 : Nat), .int .u64 (Oct.word x.s 3 : Nat), .slice x.a x.n x.c, .int .i64 x.mn, .int .i64 x.mx] 30))
            have HX5 : Hid (NodeAt _ _ t x) := hx5
            have HS5 : Hid (Pt w s B R d _ j' _ ts) := hS5
            have HC5 : Hid (∀ j v, x.cells[j]? = some v → _) := cells_new u4 x
            have HL5 : Hid (ts.length ≤ 100000) := by show _ ≤ _; omega
            have HZ5 : Hid (w.heap.size + 1 ≤ _) := hS5.size
            clear hc hr4 hg4 hx hx5 hS5 hu3 hvb HS3 HS4
            unfold Nd.val
            go_wp2_with (at_builtin; go_must (refine wpList_append_node rfl _ _ rfl (w.heap.size + 1) _ ts rfl HS5.out.nodes ⟨u4.heap.size, 0, none⟩ 1 x t rfl HX5.out HC5.out HL5.out HZ5.out ?_; intro g cap' w6 hn6 hg6 hb6; have HS6 : Hid (Pt w s B R d w6 j' _ (ts ++ [t])) := (HS5.out.more hn6 hg6 hb6); clear hn6 hg6 hb6))
            go_roundw
            case rel => exact ⟨m, ts ++ [t], j', by omega, hj', by simp; omega, HS6, HGO⟩
            case measure =>
              rw [HM.out, HS6.out.rd.cells.2.1]
              simp [intOf]
              omega
end Go.Proofs.Ytjmbimgofceanaa

