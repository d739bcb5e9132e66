/- ere's repeated. -/
import Derived.Test.YtjmbimgofceanaaG14
namespace Go.Proofs.Ytjmbimgofceanaa
open Go.RowKit
attribute [local go_sem ↓] Go.wp_at_zero Go.wp_at_succ

theorem NB.set {u : World} {A : Nat} {x : Nd} (h : NB u A x) {B : Nat} (hne : A ≠ B) (j : Nat) (v : Value) : NB (u.setCell ⟨B, j, none⟩ v) A x := by
  unfold NB at h ⊢
  rw [Below.heap_setCell u ⟨B, j, none⟩ v A hne]
  exact h
theorem row_new {u : World} {X : Nat → Prop} (x : Nd) (hX : X u.heap.size) : RowAt X (u.alloc (.cells #[.int .i64 x.k, .int .u64 (Oct.word x.s 0 : Nat), .int .u64 (Oct.word x.s 1 : Nat), .int .u64 (Oct.word x.s 2 : Nat), .int .u64 (Oct.word x.s 3 : Nat), .slice x.a x.n x.c, .int .i64 x.mn, .int .i64 x.mx] 30)) (some ⟨u.heap.size, 0, none⟩) [x] := by
  refine Or.inr ⟨u.heap.size, 0, rfl, hX, fun j v hj => ?_⟩
  rw [Nat.zero_add, World.cell?_alloc_mark]
  have e : flatN [x] = x.cells := by simp [flatN]
  rw [e] at hj
  simpa [Nd.cells] using hj
theorem node_one {X : Nat → Prop} {w : World} {t : Tr} {x : Nd} {a : Option Addr} (k : Nat) (l m : Int) (c : Nat) (hr : RowAt X w a [x]) (ht : NodeAt X w t x) : NodeAt X w (.mk k Oct.none [t] l m) ⟨k, Oct.none, a, 1, c, l, m⟩ :=
  .mk k Oct.none [t] l m a 1 c [x] rfl rfl hr (fun i t' v' h1 h2 => by
    cases i with
    | zero => simp at h1 h2; subst h1 h2; exact ht
    | succ i => simp at h1)
theorem counts_lt {s : ByteArray} {i j : Nat} {x : Int × Int} (h : counts s i = .ok x j) : j < s.size := by
  have he : ∀ {o : Nat} {l m : Int} {k : Nat}, countsEnd s o l m k = .ok x j → j < s.size := fun {o l m k} hh => by
    unfold countsEnd at hh
    split at hh
    · rename_i h1
      cases hh
      simp [sees] at h1
      exact h1.1.1
    · cases hh
  unfold counts at h
  split at h
  · split at h
    · split at h
      · exact he h
      · split at h
        · exact he h
        · cases h
        · cases h
    · exact he h
  · cases h
  · cases h
/-- THE STATE of ere.repeated: the atom's box, the result, the reader. -/
structure Rp (w : World) (s : ByteArray) (B A R d : Nat) (base : Nat) (t : Tr) (x : Nd) (u : World) (i : Nat) : Prop where
  box : NB u A x
  res : NB u R zeroNd
  rd : RB u B s i d
  grown : w.grownBy u (some B)
  node : NodeAt (fun b => base ≤ b ∧ b < w.heap.size) u t x
  hA : w.heap.size ≤ A
  hR : w.heap.size ≤ R
  hB : B < base
  hbase : base ≤ w.heap.size
section
variable {w : World} {s : ByteArray} {B A R d base : Nat} {t : Tr} {x : Nd} {u u' : World} {i : Nat}
theorem Rp.later (h : Rp w s B A R d base t x u i) (hb : Below u.heap.size u u') : Rp w s B A R d base t x u' i :=
  ⟨h.box.later hb, h.res.later hb, h.rd.later hb, grown_below h.grown hb, h.node.later hb, h.hA, h.hR, h.hB, h.hbase⟩
theorem Rp.read (h : Rp w s B A R d base t x u i) {j : Nat} (hg : u.grownBy u' (some B)) (hr : RB u' B s j d) : Rp w s B A R d base t x u' j := by
  have h1 := h.hA
  have h2 := h.hR
  have h3 := h.hB
  have h4 := h.hbase
  exact ⟨h.box.grown hg (by simp; omega), h.res.grown hg (by simp; omega), hr, grown_trans h.grown hg, h.node.keep (fun _ h _ => h) (fun b hb hlt => hg.block b hlt (by simp; omega)), h1, h2, h3, h4⟩
end
set_option maxHeartbeats 4000000 in
theorem repeated_walk (B i d base : Nat) (s : ByteArray) (t : Tr) (x : Nd) (w : World) (h : RB w B s i d) (hi : i ≤ s.size) (hs : s.size ≤ 1024) (hn : NodeAt (fun b => base ≤ b) w t x) (hB : B < base) (hbase : base ≤ w.heap.size) : Calls Try.prog 82 #[.pointer (some ⟨B, 0, none⟩), x.val] w (Reads w B s d (repeated s t i) (TreeV base)) := by
  obtain ⟨w0, hw0⟩ : ∃ w0, w0 = w.alloc (.cells #[.int .i64 x.k, .int .u64 (Oct.word x.s 0 : Nat), .int .u64 (Oct.word x.s 1 : Nat), .int .u64 (Oct.word x.s 2 : Nat), .int .u64 (Oct.word x.s 3 : Nat), .slice x.a x.n x.c, .int .i64 x.mn, .int .i64 x.mx] 30) := ⟨_, rfl⟩
  obtain ⟨w1, hw1⟩ : ∃ w1, w1 = w0.alloc (.cells #[.int .i64 0, .int .u64 0, .int .u64 0, .int .u64 0, .int .u64 0, .slice none 0 0, .int .i64 0, .int .i64 0] 30) := ⟨_, rfl⟩
  have z0 : w0.heap.size = w.heap.size + 1 := by rw [hw0]; simp
  have k0 : Below w.heap.size w w0 := by rw [hw0]; exact (Below.refl _ _).alloc (Nat.le_refl _) _
  have k1 : Below w0.heap.size w0 w1 := by rw [hw1]; exact (Below.refl _ _).alloc (Nat.le_refl _) _
  have HS : Hid (Rp w s B w.heap.size (w.heap.size + 1) d base t x w1 i) :=
    ⟨by have hb0 : NB w0 w.heap.size x := (by rw [hw0]; exact nb_new w x); exact hb0.later k1, by have hb1 : NB w1 w0.heap.size zeroNd := (by rw [hw1]; exact nb_zero w0); rw [z0] at hb1; exact hb1, (h.later k0).later k1, grown_below (grown_below (grown_refl _ _) k0) k1, ((hn.keep (Y := fun b => base ≤ b ∧ b < w.heap.size) (fun b hb hlt => ⟨hb, hlt⟩) (fun _ _ _ => rfl)).later k0).later k1, Nat.le_refl _, by omega, hB, hbase⟩
  have HW1 : Hid (w0.alloc (.cells #[.int .i64 0, .int .u64 0, .int .u64 0, .int .u64 0, .int .u64 0, .slice none 0 0, .int .i64 0, .int .i64 0] 30) = w1) := hw1.symm
  have HW0 : Hid (w.alloc (.cells #[.int .i64 x.k, .int .u64 (Oct.word x.s 0 : Nat), .int .u64 (Oct.word x.s 1 : Nat), .int .u64 (Oct.word x.s 2 : Nat), .int .u64 (Oct.word x.s 3 : Nat), .slice x.a x.n x.c, .int .i64 x.mn, .int .i64 x.mx] 30) = w0) := hw0.symm
  obtain ⟨A, hA⟩ : ∃ A, A = w.heap.size := ⟨_, rfl⟩
  obtain ⟨R, hR⟩ : ∃ R, R = w.heap.size + 1 := ⟨_, rfl⟩
  rw [← hA] at HS
  rw [show A + 1 = R by omega] at HS
  have HAA : Hid (A = w.heap.size) := hA
  have HRR : Hid (R = w.heap.size + 1) := hR
  clear hw0 hw1 z0 k0 k1 h hn hA hR
  have HFIN : Hid (∀ (u : World) (j : Nat) (l m : Int), Rp w s B A R d base t x u j → j < s.size → repeated s t i = .ok (times t l m) (j + 1) →
      Reads w B s d (repeated s t i) (TreeV base) (.returned (Nd.val ⟨(5 : Nat), Oct.none, some ⟨u.heap.size, 0, none⟩, 1, 1, l, m⟩)) (put8 ((u.setCell ⟨B, 1, none⟩ (.int .i64 ((j : Int) + 1))).alloc (.cells #[.int .i64 x.k, .int .u64 (Oct.word x.s 0 : Nat), .int .u64 (Oct.word x.s 1 : Nat), .int .u64 (Oct.word x.s 2 : Nat), .int .u64 (Oct.word x.s 3 : Nat), .slice x.a x.n x.c, .int .i64 x.mn, .int .i64 x.mx] 30)) R ⟨(5 : Nat), Oct.none, some ⟨u.heap.size, 0, none⟩, 1, 1, l, m⟩)) := fun u j l m hrp hj he => by
    have hr1 : RB (u.setCell ⟨B, 1, none⟩ (.int .i64 ((j : Int) + 1))) B s (j + 1) d := hrp.rd.at (j + 1)
    have hp1 := hrp.read (grown_set u B 1 (.int .i64 ((j : Int) + 1))) hr1
    have hal := (Below.refl (u.setCell ⟨B, 1, none⟩ (.int .i64 ((j : Int) + 1))).heap.size (u.setCell ⟨B, 1, none⟩ (.int .i64 ((j : Int) + 1)))).alloc (Nat.le_refl _) (.cells #[.int .i64 x.k, .int .u64 (Oct.word x.s 0 : Nat), .int .u64 (Oct.word x.s 1 : Nat), .int .u64 (Oct.word x.s 2 : Nat), .int .u64 (Oct.word x.s 3 : Nat), .slice x.a x.n x.c, .int .i64 x.mn, .int .i64 x.mx] 30)
    have hp2 := hp1.later hal
    have hsz : (u.setCell ⟨B, 1, none⟩ (.int .i64 ((j : Int) + 1))).heap.size = u.heap.size := by simp [World.setCell]
    have hlt := hp1.box.lt
    have hrow := row_new (u := u.setCell ⟨B, 1, none⟩ (.int .i64 ((j : Int) + 1))) (X := fun b => base ≤ b ∧ b ≠ R) x ⟨by have := hrp.hA; have := hrp.hbase; omega, by have := hp1.res.lt; omega⟩
    rw [hsz] at hrow
    unfold Reads
    rw [he]
    refine ⟨by omega, _, rfl, ⟨_, rfl, ?_⟩, put8_rb hp2.rd (by have := hp2.hR; have := hp2.hB; have := hp2.hbase; omega) _, put8_grown hp2.grown hp2.hR _⟩
    have hnode := hp2.node
    have hRb := hp2.hR
    refine node_one 5 l m 1 (hrow.keep (fun b hb _ => hb.1) (fun b hb _ => heap_put8 _ R _ b hb.2)) ?_
    exact hnode.keep (fun b hb _ => hb.1) (fun b hb _ => heap_put8 _ R _ b (by omega))
  unfold Nd.val
  go_enter Try.func82, Try.ntmps82
  go_upto_region 1 with fail
  rw [HW0.out, HW1.out, ← HAA.out, show A + 1 = R by rw [HAA.out, HRR.out]]
  clear HW0 HW1 HAA HRR
  have HSw1 := HS
  clear HS
  go_wp2_with fail
  refine (sees_any B i d 42 s w1 HSw1.out.rd hi).mono ?_
  rintro e u1 ⟨rfl, kk⟩
  have HSu1 : Hid (Rp w s B A R d base t x u1 i) := HSw1.out.later kk
  clear kk HSw1
  cases h42 : sees s i 42 with
  | true =>
    have hlt : i < s.size := by unfold sees at h42; simp at h42; exact h42.1
    have HX : Hid (repeated s t i = .ok (times t 0 (-1)) (i + 1)) := by show _ = _; simp [repeated, h42]
    clear h42
    obtain ⟨c0, c1, c2⟩ := HSu1.out.rd.cells
    have f1 := HSu1.out.rd.frozen 1
    have hj3 : i ≤ 1024 := by omega
    have hjl : i < s.size := by omega
    have hRB : R ≠ B := by have := HSu1.out.hR; have := HSu1.out.hB; have := HSu1.out.hbase; omega
    have hAB : A ≠ B := by have := HSu1.out.hA; have := HSu1.out.hB; have := HSu1.out.hbase; omega
    have HBOX : Hid (NB (u1.setCell ⟨B, 1, none⟩ (.int .i64 ((i : Int) + 1))) A x) := HSu1.out.box.set hAB _ _
    have HRES : Hid (NB (u1.setCell ⟨B, 1, none⟩ (.int .i64 ((i : Int) + 1))) R zeroNd) := HSu1.out.res.set hRB _ _
    have HF := HFIN.out u1 i 0 (-1) HSu1.out hjl HX.out
    have HFH : Hid (Reads w B s d (repeated s t i) (TreeV base) _ _) := HF
    clear HF hRB hAB
    go_upto_region 11 with fail
    obtain ⟨u9, hu9⟩ : ∃ u9, u9 = u1.setCell ⟨B, 1, none⟩ (.int .i64 ((i : Int) + 1)) := ⟨_, rfl⟩
    have hsz9 : u9.heap.size = u1.heap.size := by rw [hu9]; simp [World.setCell]
    rw [← hu9] at HBOX HRES HFH ⊢
    rw [← hsz9] at HFH
    clear hu9 hsz9 c0 c1 c2 f1
    obtain ⟨b0, b1, b2, b3, b4, b5, b6, b7⟩ := HBOX.out.cells
    have hal : Below u9.heap.size u9 (u9.alloc (.cells #[.int .i64 x.k, .int .u64 (Oct.word x.s 0 : Nat), .int .u64 (Oct.word x.s 1 : Nat), .int .u64 (Oct.word x.s 2 : Nat), .int .u64 (Oct.word x.s 3 : Nat), .slice x.a x.n x.c, .int .i64 x.mn, .int .i64 x.mx] 30)) := (Below.refl _ _).alloc (Nat.le_refl _) _
    have HRES2 : Hid (NB (u9.alloc (.cells #[.int .i64 x.k, .int .u64 (Oct.word x.s 0 : Nat), .int .u64 (Oct.word x.s 1 : Nat), .int .u64 (Oct.word x.s 2 : Nat), .int .u64 (Oct.word x.s 3 : Nat), .slice x.a x.n x.c, .int .i64 x.mn, .int .i64 x.mx] 30)) R zeroNd) := HRES.out.later hal
    clear hal
    obtain ⟨z0, z1, z2, z3, z4, z5, z6, z7⟩ := HRES2.out.cells
    have y0 := HRES2.out.frozen 0
    have y1 := HRES2.out.frozen 1
    have y2 := HRES2.out.frozen 2
    have y3 := HRES2.out.frozen 3
    have y4 := HRES2.out.frozen 4
    have y5 := HRES2.out.frozen 5
    have y6 := HRES2.out.frozen 6
    have y7 := HRES2.out.frozen 7
    go_wp2
    show bodyPost _ _ _ _ _ (put8z _ R 5 (some ⟨u9.heap.size, 0, none⟩) 1 1 0 (-1))
    rw [put8z_eq]
    exact post_node Try.f82 4 rfl rfl rfl (HRES2.out.put8 _) HFH.out
  | false =>
    have H42 : Hid (sees s i 42 = false) := h42
    clear h42
    go_wp2_with fail
    refine (sees_any B i d 43 s u1 HSu1.out.rd hi).mono ?_
    rintro e u2 ⟨rfl, kk⟩
    have HSu2 : Hid (Rp w s B A R d base t x u2 i) := HSu1.out.later kk
    clear kk HSu1
    cases h43 : sees s i 43 with
    | true =>
      have hlt : i < s.size := by unfold sees at h43; simp at h43; exact h43.1
      have HX : Hid (repeated s t i = .ok (times t 1 (-1)) (i + 1)) := by show _ = _; simp [repeated, H42.out, h43]
      clear h43
      obtain ⟨c0, c1, c2⟩ := HSu2.out.rd.cells
      have f1 := HSu2.out.rd.frozen 1
      have hj3 : i ≤ 1024 := by omega
      have hjl : i < s.size := by omega
      have hRB : R ≠ B := by have := HSu2.out.hR; have := HSu2.out.hB; have := HSu2.out.hbase; omega
      have hAB : A ≠ B := by have := HSu2.out.hA; have := HSu2.out.hB; have := HSu2.out.hbase; omega
      have HBOX : Hid (NB (u2.setCell ⟨B, 1, none⟩ (.int .i64 ((i : Int) + 1))) A x) := HSu2.out.box.set hAB _ _
      have HRES : Hid (NB (u2.setCell ⟨B, 1, none⟩ (.int .i64 ((i : Int) + 1))) R zeroNd) := HSu2.out.res.set hRB _ _
      have HF := HFIN.out u2 i 1 (-1) HSu2.out hjl HX.out
      have HFH : Hid (Reads w B s d (repeated s t i) (TreeV base) _ _) := HF
      clear HF hRB hAB
      go_upto_region 11 with fail
      obtain ⟨u9, hu9⟩ : ∃ u9, u9 = u2.setCell ⟨B, 1, none⟩ (.int .i64 ((i : Int) + 1)) := ⟨_, rfl⟩
      have hsz9 : u9.heap.size = u2.heap.size := by rw [hu9]; simp [World.setCell]
      rw [← hu9] at HBOX HRES HFH ⊢
      rw [← hsz9] at HFH
      clear hu9 hsz9 c0 c1 c2 f1
      obtain ⟨b0, b1, b2, b3, b4, b5, b6, b7⟩ := HBOX.out.cells
      have hal : Below u9.heap.size u9 (u9.alloc (.cells #[.int .i64 x.k, .int .u64 (Oct.word x.s 0 : Nat), .int .u64 (Oct.word x.s 1 : Nat), .int .u64 (Oct.word x.s 2 : Nat), .int .u64 (Oct.word x.s 3 : Nat), .slice x.a x.n x.c, .int .i64 x.mn, .int .i64 x.mx] 30)) := (Below.refl _ _).alloc (Nat.le_refl _) _
      have HRES2 : Hid (NB (u9.alloc (.cells #[.int .i64 x.k, .int .u64 (Oct.word x.s 0 : Nat), .int .u64 (Oct.word x.s 1 : Nat), .int .u64 (Oct.word x.s 2 : Nat), .int .u64 (Oct.word x.s 3 : Nat), .slice x.a x.n x.c, .int .i64 x.mn, .int .i64 x.mx] 30)) R zeroNd) := HRES.out.later hal
      clear hal
      obtain ⟨z0, z1, z2, z3, z4, z5, z6, z7⟩ := HRES2.out.cells
      have y0 := HRES2.out.frozen 0
      have y1 := HRES2.out.frozen 1
      have y2 := HRES2.out.frozen 2
      have y3 := HRES2.out.frozen 3
      have y4 := HRES2.out.frozen 4
      have y5 := HRES2.out.frozen 5
      have y6 := HRES2.out.frozen 6
      have y7 := HRES2.out.frozen 7
      go_wp2
      show bodyPost _ _ _ _ _ (put8z _ R 5 (some ⟨u9.heap.size, 0, none⟩) 1 1 1 (-1))
      rw [put8z_eq]
      exact post_node Try.f82 4 rfl rfl rfl (HRES2.out.put8 _) HFH.out
    | false =>
      have H43 : Hid (sees s i 43 = false) := h43
      clear h43
      go_wp2_with fail
      refine (sees_any B i d 63 s u2 HSu2.out.rd hi).mono ?_
      rintro e u3 ⟨rfl, kk⟩
      have HSu3 : Hid (Rp w s B A R d base t x u3 i) := HSu2.out.later kk
      clear kk HSu2
      cases h63 : sees s i 63 with
      | true =>
        have hlt : i < s.size := by unfold sees at h63; simp at h63; exact h63.1
        have HX : Hid (repeated s t i = .ok (times t 0 1) (i + 1)) := by show _ = _; simp [repeated, H42.out, H43.out, h63]
        clear h63
        obtain ⟨c0, c1, c2⟩ := HSu3.out.rd.cells
        have f1 := HSu3.out.rd.frozen 1
        have hj3 : i ≤ 1024 := by omega
        have hjl : i < s.size := by omega
        have hRB : R ≠ B := by have := HSu3.out.hR; have := HSu3.out.hB; have := HSu3.out.hbase; omega
        have hAB : A ≠ B := by have := HSu3.out.hA; have := HSu3.out.hB; have := HSu3.out.hbase; omega
        have HBOX : Hid (NB (u3.setCell ⟨B, 1, none⟩ (.int .i64 ((i : Int) + 1))) A x) := HSu3.out.box.set hAB _ _
        have HRES : Hid (NB (u3.setCell ⟨B, 1, none⟩ (.int .i64 ((i : Int) + 1))) R zeroNd) := HSu3.out.res.set hRB _ _
        have HF := HFIN.out u3 i 0 1 HSu3.out hjl HX.out
        have HFH : Hid (Reads w B s d (repeated s t i) (TreeV base) _ _) := HF
        clear HF hRB hAB
        go_upto_region 11 with fail
        obtain ⟨u9, hu9⟩ : ∃ u9, u9 = u3.setCell ⟨B, 1, none⟩ (.int .i64 ((i : Int) + 1)) := ⟨_, rfl⟩
        have hsz9 : u9.heap.size = u3.heap.size := by rw [hu9]; simp [World.setCell]
        rw [← hu9] at HBOX HRES HFH ⊢
        rw [← hsz9] at HFH
        clear hu9 hsz9 c0 c1 c2 f1
        obtain ⟨b0, b1, b2, b3, b4, b5, b6, b7⟩ := HBOX.out.cells
        have hal : Below u9.heap.size u9 (u9.alloc (.cells #[.int .i64 x.k, .int .u64 (Oct.word x.s 0 : Nat), .int .u64 (Oct.word x.s 1 : Nat), .int .u64 (Oct.word x.s 2 : Nat), .int .u64 (Oct.word x.s 3 : Nat), .slice x.a x.n x.c, .int .i64 x.mn, .int .i64 x.mx] 30)) := (Below.refl _ _).alloc (Nat.le_refl _) _
        have HRES2 : Hid (NB (u9.alloc (.cells #[.int .i64 x.k, .int .u64 (Oct.word x.s 0 : Nat), .int .u64 (Oct.word x.s 1 : Nat), .int .u64 (Oct.word x.s 2 : Nat), .int .u64 (Oct.word x.s 3 : Nat), .slice x.a x.n x.c, .int .i64 x.mn, .int .i64 x.mx] 30)) R zeroNd) := HRES.out.later hal
        clear hal
        obtain ⟨z0, z1, z2, z3, z4, z5, z6, z7⟩ := HRES2.out.cells
        have y0 := HRES2.out.frozen 0
        have y1 := HRES2.out.frozen 1
        have y2 := HRES2.out.frozen 2
        have y3 := HRES2.out.frozen 3
        have y4 := HRES2.out.frozen 4
        have y5 := HRES2.out.frozen 5
        have y6 := HRES2.out.frozen 6
        have y7 := HRES2.out.frozen 7
        go_wp2
        show bodyPost _ _ _ _ _ (put8z _ R 5 (some ⟨u9.heap.size, 0, none⟩) 1 1 0 1)
        rw [put8z_eq]
        exact post_node Try.f82 4 rfl rfl rfl (HRES2.out.put8 _) HFH.out
      | false =>
        have H63 : Hid (sees s i 63 = false) := h63
        clear h63
        go_wp2_with fail
        refine (sees_any B i d 123 s u3 HSu3.out.rd hi).mono ?_
        rintro e u4 ⟨rfl, kk⟩
        have HSu4 : Hid (Rp w s B A R d base t x u4 i) := HSu3.out.later kk
        clear kk HSu3
        cases h123 : sees s i 123 with
        | true =>
          have hlt : i < s.size := by unfold sees at h123; simp at h123; exact h123.1
          have HX0 : Hid (repeated s t i = match counts s i with
            | .ok (l, m) j => .ok (times t l m) (j + 1)
            | .bad a e => .bad a e
            | .out => .out) := by show _ = _; simp only [repeated, H42.out, H43.out, H63.out, h123]; rfl
          clear h123
          go_wp2_with fail
          refine (counts_any B i d s u4 HSu4.out.rd hlt hs).mono ?_
          intro e u5 h5
          cases hc : counts s i with
          | out => rw [hc] at h5; exact h5.elim
          | bad a c =>
            rw [hc] at h5 HX0
            obtain ⟨rfl, hg5⟩ := h5
            have HG5 : Hid (w.grownBy u5 (some B)) := grown_trans HSu4.out.grown hg5
            clear hc hg5
            go_wp2
            refine ⟨rfl, ?_⟩
            unfold Reads
            rw [HX0.out]
            exact ⟨rfl, HG5.out⟩
          | ok lm j =>
            obtain ⟨l, m⟩ := lm
            rw [hc] at h5 HX0
            obtain ⟨hj, v, rfl, rfl, hr5, hg5⟩ := h5
            have HSu5 : Hid (Rp w s B A R d base t x u5 j) := HSu4.out.read hg5 hr5
            have HX : Hid (repeated s t i = .ok (times t l m) (j + 1)) := HX0
            have hjlt : j < s.size := counts_lt hc
            clear hc hr5 hg5 HX0 HSu4
            obtain ⟨c0, c1, c2⟩ := HSu5.out.rd.cells
            have f1 := HSu5.out.rd.frozen 1
            have hj3 : j ≤ 1024 := by omega
            have hjl : j < s.size := by omega
            have hRB : R ≠ B := by have := HSu5.out.hR; have := HSu5.out.hB; have := HSu5.out.hbase; omega
            have hAB : A ≠ B := by have := HSu5.out.hA; have := HSu5.out.hB; have := HSu5.out.hbase; omega
            have HBOX : Hid (NB (u5.setCell ⟨B, 1, none⟩ (.int .i64 ((j : Int) + 1))) A x) := HSu5.out.box.set hAB _ _
            have HRES : Hid (NB (u5.setCell ⟨B, 1, none⟩ (.int .i64 ((j : Int) + 1))) R zeroNd) := HSu5.out.res.set hRB _ _
            have HF := HFIN.out u5 j l m HSu5.out hjl HX.out
            have HFH : Hid (Reads w B s d (repeated s t i) (TreeV base) _ _) := HF
            clear HF hRB hAB
            go_upto_region 11 with fail
            obtain ⟨u9, hu9⟩ : ∃ u9, u9 = u5.setCell ⟨B, 1, none⟩ (.int .i64 ((j : Int) + 1)) := ⟨_, rfl⟩
            have hsz9 : u9.heap.size = u5.heap.size := by rw [hu9]; simp [World.setCell]
            rw [← hu9] at HBOX HRES HFH ⊢
            rw [← hsz9] at HFH
            clear hu9 hsz9 c0 c1 c2 f1
            obtain ⟨b0, b1, b2, b3, b4, b5, b6, b7⟩ := HBOX.out.cells
            have hal : Below u9.heap.size u9 (u9.alloc (.cells #[.int .i64 x.k, .int .u64 (Oct.word x.s 0 : Nat), .int .u64 (Oct.word x.s 1 : Nat), .int .u64 (Oct.word x.s 2 : Nat), .int .u64 (Oct.word x.s 3 : Nat), .slice x.a x.n x.c, .int .i64 x.mn, .int .i64 x.mx] 30)) := (Below.refl _ _).alloc (Nat.le_refl _) _
            have HRES2 : Hid (NB (u9.alloc (.cells #[.int .i64 x.k, .int .u64 (Oct.word x.s 0 : Nat), .int .u64 (Oct.word x.s 1 : Nat), .int .u64 (Oct.word x.s 2 : Nat), .int .u64 (Oct.word x.s 3 : Nat), .slice x.a x.n x.c, .int .i64 x.mn, .int .i64 x.mx] 30)) R zeroNd) := HRES.out.later hal
            clear hal
            obtain ⟨z0, z1, z2, z3, z4, z5, z6, z7⟩ := HRES2.out.cells
            have y0 := HRES2.out.frozen 0
            have y1 := HRES2.out.frozen 1
            have y2 := HRES2.out.frozen 2
            have y3 := HRES2.out.frozen 3
            have y4 := HRES2.out.frozen 4
            have y5 := HRES2.out.frozen 5
            have y6 := HRES2.out.frozen 6
            have y7 := HRES2.out.frozen 7
            go_wp2
            show bodyPost _ _ _ _ _ (put8z _ R 5 (some ⟨u9.heap.size, 0, none⟩) 1 1 l m)
            rw [put8z_eq]
            exact post_node Try.f82 4 rfl rfl rfl (HRES2.out.put8 _) HFH.out
        | false =>
          have HX : Hid (repeated s t i = .ok t i) := by show _ = _; simp [repeated, H42.out, H43.out, H63.out, h123]
          clear h123
          obtain ⟨b0, b1, b2, b3, b4, b5, b6, b7⟩ := HSu4.out.box.cells
          obtain ⟨z0, z1, z2, z3, z4, z5, z6, z7⟩ := HSu4.out.res.cells
          have y0 := HSu4.out.res.frozen 0
          have y1 := HSu4.out.res.frozen 1
          have y2 := HSu4.out.res.frozen 2
          have y3 := HSu4.out.res.frozen 3
          have y4 := HSu4.out.res.frozen 4
          have y5 := HSu4.out.res.frozen 5
          have y6 := HSu4.out.res.frozen 6
          have y7 := HSu4.out.res.frozen 7
          go_wp2
          refine post_node Try.f82 4 rfl rfl rfl (HSu4.out.res.put8 x) ?_
          unfold Reads
          rw [HX.out]
          have hRb := HSu4.out.hR
          have hBb := HSu4.out.hB
          have hbb := HSu4.out.hbase
          exact ⟨hi, _, rfl, ⟨_, rfl, HSu4.out.node.keep (fun b hb _ => hb.1) (fun b hb _ => heap_put8 _ R _ b (by omega))⟩, put8_rb HSu4.out.rd (by omega) _, put8_grown HSu4.out.grown hRb _⟩
end Go.Proofs.Ytjmbimgofceanaa
