/- heronlaw04.deepCopy: a tree anew. -/
import Derived.Test.YtlcnmfgmgiijpaaG21
import Derived.Test.YtlcnmfgmgiijpaaG14
namespace Go.Proofs.Ytlcnmfgmgiijpaa
open Go.RowKit
attribute [local go_sem ↓] Go.wp_at_zero Go.wp_at_succ

/-- a tree whose lists are short -/
inductive Sm (N : Nat) : Tr → Prop
  | mk (k : Nat) (s : Oct.S) (subs : List Tr) (mn mx : Int) (hl : subs.length ≤ N) (hs : ∀ (i : Nat) (t : Tr), subs[i]? = some t → Sm N t) : Sm N (.mk k s subs mn mx)
theorem Sm.len {N k : Nat} {s : Oct.S} {subs : List Tr} {mn mx : Int} (h : Sm N (.mk k s subs mn mx)) : subs.length ≤ N := by cases h; assumption
theorem Sm.sub {N k : Nat} {s : Oct.S} {subs : List Tr} {mn mx : Int} (h : Sm N (.mk k s subs mn mx)) {i : Nat} {t : Tr} (ht : subs[i]? = some t) : Sm N t := by
  cases h with
  | mk _ _ _ _ _ hl hs => exact hs i t ht
/-- THE STATE of deepCopy: the node's box, the result, the list so far. -/
structure Dc (w : World) (A R : Nat) (x : Nd) (u : World) (V : Value) (ts : List Tr) : Prop where
  box : NB u A x
  res : NB u R zeroNd
  be : Below w.heap.size w u
  nodes : Nodes u (w.heap.size + 2) V ts
  hA : A = w.heap.size
  hR : R = w.heap.size + 1
section
variable {w : World} {A R : Nat} {x : Nd} {u u' : World} {V : Value} {ts : List Tr}
theorem Dc.size (h : Dc w A R x u V ts) : w.heap.size + 2 ≤ u.heap.size := by have := h.res.lt; have := h.hR; omega
theorem Dc.later (h : Dc w A R x u V ts) (hb : Below u.heap.size u u') : Dc w A R x u' V ts :=
  ⟨h.box.later hb, h.res.later hb, below_trans h.be hb h.be.size, h.nodes.keep (fun b _ hlt => hb.block b hlt), h.hA, h.hR⟩
theorem Dc.more (h : Dc w A R x u V ts) {V' : Value} {ts' : List Tr} (hn : Nodes u' (w.heap.size + 2) V' ts') (hg : u.grownBy u' V.ownBlock) (hb : ∀ k, V.ownBlock = some k → w.heap.size + 2 ≤ k) : Dc w A R x u' V' ts' := by
  have h1 := h.hA
  have h2 := h.hR
  have hlow : ∀ k, k < w.heap.size + 2 → k < u.heap.size → u'.heap[k]? = u.heap[k]? := fun k hk hlt => hg.block k hlt (fun e => by have := hb k e.symm; omega)
  refine ⟨(hlow A (by omega) h.box.lt).trans h.box, (hlow R (by omega) h.res.lt).trans h.res, ?_, hn, h1, h2⟩
  exact ⟨hg.os.trans h.be.os, hg.tape.trans h.be.tape, hg.output.trans h.be.output, Nat.le_trans h.be.size hg.size, fun k hk => (hlow k (by omega) (Nat.lt_of_lt_of_le hk h.be.size)).trans (h.be.block k hk)⟩
end
set_option maxRecDepth 4000 in
set_option maxHeartbeats 8000000 in
theorem copy_any {X : Nat → Prop} {w0 : World} {t : Tr} {x : Nd} (h : NodeAt X w0 t x) (hsm : Sm 100000 t) : ∀ w, Below w0.heap.size w0 w → Calls Try.prog 11 #[x.val] w fun e w' => (∃ y : Nd, e = .returned y.val ∧ NodeAt (fun b => w.heap.size ≤ b) w' t y) ∧ Below w.heap.size w w' := by
  induction h with
  | mk k s subs mn mx a n c vs hn hl hr hs ih =>
    intro w hw
    have HIH : Hid (∀ (i : Nat) (t : Tr) (v : Nd), subs[i]? = some t → vs[i]? = some v → Sm 100000 t → ∀ w, Below w0.heap.size w0 w → Calls Try.prog 11 #[v.val] w fun e w' => (∃ y : Nd, e = .returned y.val ∧ NodeAt (fun b => w.heap.size ≤ b) w' t y) ∧ Below w.heap.size w w') := ih
    have HRO : Hid (RowAt X w0 a vs) := hr
    have HN : Hid (n = subs.length) := hn
    have HL : Hid (vs.length = n) := hl
    have HW : Hid (Below w0.heap.size w0 w) := hw
    have HSM : Hid (Sm 100000 (.mk k s subs mn mx)) := hsm
    have hnl : n ≤ 100000 := by rw [hn]; exact hsm.len
    obtain ⟨w1, hw1⟩ : ∃ w1, w1 = w.alloc (.cells #[.int .i64 k, .int .u64 (Oct.word s 0 : Nat), .int .u64 (Oct.word s 1 : Nat), .int .u64 (Oct.word s 2 : Nat), .int .u64 (Oct.word s 3 : Nat), .slice a n c, .int .i64 mn, .int .i64 mx] 28) := ⟨_, rfl⟩
    obtain ⟨w2, hw2⟩ : ∃ w2, w2 = w1.alloc (.cells #[.int .i64 0, .int .u64 0, .int .u64 0, .int .u64 0, .int .u64 0, .slice none 0 0, .int .i64 0, .int .i64 0] 28) := ⟨_, rfl⟩
    have z1 : w1.heap.size = w.heap.size + 1 := by rw [hw1]; simp
    have k1 : Below w.heap.size w w1 := by rw [hw1]; exact (Below.refl _ _).alloc (Nat.le_refl _) _
    have k2 : Below w1.heap.size w1 w2 := by rw [hw2]; exact (Below.refl _ _).alloc (Nat.le_refl _) _
    have HS : Hid (Dc w w.heap.size (w.heap.size + 1) ⟨k, s, a, n, c, mn, mx⟩ w2 (.slice none 0 0) []) :=
      ⟨by have hb0 : NB w1 w.heap.size ⟨k, s, a, n, c, mn, mx⟩ := (by rw [hw1]; exact nb_new w ⟨k, s, a, n, c, mn, mx⟩); exact hb0.later k2, by have hb1 : NB w2 w1.heap.size zeroNd := (by rw [hw2]; exact nb_zero w1); rw [z1] at hb1; exact hb1, below_trans k1 k2 k1.size, nodes_nil _ _, rfl, rfl⟩
    have HW1 : Hid (w.alloc (.cells #[.int .i64 k, .int .u64 (Oct.word s 0 : Nat), .int .u64 (Oct.word s 1 : Nat), .int .u64 (Oct.word s 2 : Nat), .int .u64 (Oct.word s 3 : Nat), .slice a n c, .int .i64 mn, .int .i64 mx] 28) = w1) := hw1.symm
    have HW2 : Hid (w1.alloc (.cells #[.int .i64 0, .int .u64 0, .int .u64 0, .int .u64 0, .int .u64 0, .slice none 0 0, .int .i64 0, .int .i64 0] 28) = w2) := hw2.symm
    obtain ⟨A, hA⟩ : ∃ A, A = w.heap.size := ⟨_, rfl⟩
    obtain ⟨R, hR⟩ : ∃ R, R = w.heap.size + 1 := ⟨_, rfl⟩
    rw [← hR, ← hA] at HS
    have HAA : Hid (A = w.heap.size) := hA
    have HRR : Hid (R = w.heap.size + 1) := hR
    clear hw hw1 hw2 z1 k1 k2 hA hR hn hl hr hs ih hsm
    obtain ⟨b0, b1, b2, b3, b4, b5, b6, b7⟩ := HS.out.box.cells
    simp only at b0 b1 b2 b3 b4 b5 b6 b7
    unfold Nd.val
    simp only
    go_enter Try.func11, Try.ntmps11
    go_upto_region 1 with fail
    rw [HW1.out, HW2.out, ← HRR.out, ← HAA.out]
    clear HW1 HW2
    go_wp2_with fail
    go_loopw [3, 9] (fun V i u => ∃ m : Nat, i = .int .i64 (m : Nat) ∧ m ≤ n ∧ Hid (Dc w A R ⟨k, s, a, n, c, mn, mx⟩ u V (subs.take m))) (fun _ i _ => n - (intOf i).toNat)
    case atStart => exact ⟨0, rfl, Nat.zero_le _, HS⟩
    case round =>
      clear HS b0 b1 b2 b3 b4 b5 b6 b7
      obtain ⟨m, rfl, hm, hdc⟩ := hrel
      by_cases hlt : m < n
      · have hlt' : (m : Int) < (n : Int) := by omega
        obtain ⟨t, ht⟩ : ∃ t, subs[m]? = some t := ⟨_, List.getElem?_eq_getElem (by rw [← HN.out]; exact hlt)⟩
        obtain ⟨v, hv⟩ : ∃ v, vs[m]? = some v := ⟨_, List.getElem?_eq_getElem (by rw [HL.out]; exact hlt)⟩
        have HW0 : Hid (Below w0.heap.size w0 wr) := below_step HW.out hdc.out.be
        have hrow := (HRO.out.keep (Y := X) (fun _ h _ => h) (fun b _ hlt => HW0.out.block b hlt)).nth hv
        obtain ⟨g, off, rfl, e0, e1, e2, e3, e4, e5, e6, e7⟩ := hrow
        have HCALL : Hid (∀ w, Below w0.heap.size w0 w → Calls Try.prog 11 #[v.val] w fun e w' => (∃ y : Nd, e = .returned y.val ∧ NodeAt (fun b => w.heap.size ≤ b) w' t y) ∧ Below w.heap.size w w') := HIH.out m t v ht hv (HSM.out.sub ht)
        have HTK : Hid (subs.take (m + 1) = subs.take m ++ [t]) := by show _ = _; rw [List.take_add_one, ht]; rfl
        have HTL : Hid ((subs.take m).length = m) := by show _ = _; rw [List.length_take, ← HN.out]; omega
        obtain ⟨ts, hts⟩ : ∃ ts, ts = subs.take m := ⟨_, rfl⟩
        rw [← hts] at hdc HTK HTL
        clear ht hv hts
        have k3 : Below wr.heap.size wr (wr.alloc (.cells #[.int .i64 v.k, .int .u64 (Oct.word v.s 0 : Nat), .int .u64 (Oct.word v.s 1 : Nat), .int .u64 (Oct.word v.s 2 : Nat), .int .u64 (Oct.word v.s 3 : Nat), .slice v.a v.n v.c, .int .i64 v.mn, .int .i64 v.mx] 28)) := (Below.refl _ _).alloc (Nat.le_refl _) _
        have HN3 : Hid (NB (wr.alloc (.cells #[.int .i64 v.k, .int .u64 (Oct.word v.s 0 : Nat), .int .u64 (Oct.word v.s 1 : Nat), .int .u64 (Oct.word v.s 2 : Nat), .int .u64 (Oct.word v.s 3 : Nat), .slice v.a v.n v.c, .int .i64 v.mn, .int .i64 v.mx] 28)) wr.heap.size v) := nb_new wr v
        have HD3 : Hid (Dc w A R ⟨k, s, some ⟨g, off, none⟩, n, c, mn, mx⟩ (wr.alloc (.cells #[.int .i64 v.k, .int .u64 (Oct.word v.s 0 : Nat), .int .u64 (Oct.word v.s 1 : Nat), .int .u64 (Oct.word v.s 2 : Nat), .int .u64 (Oct.word v.s 3 : Nat), .slice v.a v.n v.c, .int .i64 v.mn, .int .i64 v.mx] 28)) _ ts) := hdc.out.later k3
        have HW3 : Hid (Below w0.heap.size w0 (wr.alloc (.cells #[.int .i64 v.k, .int .u64 (Oct.word v.s 0 : Nat), .int .u64 (Oct.word v.s 1 : Nat), .int .u64 (Oct.word v.s 2 : Nat), .int .u64 (Oct.word v.s 3 : Nat), .slice v.a v.n v.c, .int .i64 v.mn, .int .i64 v.mx] 28))) := below_step HW0.out k3
        clear k3
        go_upto_region 5 with fail
        obtain ⟨w3, hw3⟩ : ∃ w3, w3 = wr.alloc (.cells #[.int .i64 v.k, .int .u64 (Oct.word v.s 0 : Nat), .int .u64 (Oct.word v.s 1 : Nat), .int .u64 (Oct.word v.s 2 : Nat), .int .u64 (Oct.word v.s 3 : Nat), .slice v.a v.n v.c, .int .i64 v.mn, .int .i64 v.mx] 28) := ⟨_, rfl⟩
        obtain ⟨Y, hY⟩ : ∃ Y, Y = wr.heap.size := ⟨_, rfl⟩
        rw [← hw3] at HN3 HD3 HW3 ⊢
        rw [← hY] at HN3 ⊢
        clear hw3 hY e0 e1 e2 e3 e4 e5 e6 e7
        obtain ⟨e0, e1, e2, e3, e4, e5, e6, e7⟩ := HN3.out.cells
        have HC := HCALL.out w3 HW3.out
        unfold Nd.val at HC
        have HCC : Hid (Calls Try.prog 11 _ w3 _) := HC
        clear HC HCALL
        go_wp2_with fail
        refine HCC.out.mono ?_
        rintro e w4 ⟨⟨y, rfl, hy⟩, k4⟩
        clear HCC e0 e1 e2 e3 e4 e5 e6 e7
        have HD4 : Hid (Dc w A R ⟨k, s, some ⟨g, off, none⟩, n, c, mn, mx⟩ w4 _ ts) := HD3.out.later k4
        have hu3 := HD3.out.size
        have hvb : ∀ b, Value.ownBlock _ = some b → b < w3.heap.size := Nodes.blt HD3.out.nodes
        have hy5 := hy.keep (Y := fun b => w.heap.size + 2 ≤ b ∧ Value.ownBlock _ ≠ some b) (w' := w4.alloc (.cells #[.int .i64 y.k, .int .u64 (Oct.word y.s 0 : Nat), .int .u64 (Oct.word y.s 1 : Nat), .int .u64 (Oct.word y.s 2 : Nat), .int .u64 (Oct.word y.s 3 : Nat), .slice y.a y.n y.c, .int .i64 y.mn, .int .i64 y.mx] 28)) (fun b hb _ => ⟨by omega, fun e => by have := hvb b e; omega⟩) (fun b _ hlt => ((Below.refl _ w4).alloc (Nat.le_refl _) _).block b hlt)
        have hD5 := HD4.out.later ((Below.refl _ w4).alloc (Nat.le_refl _) (.cells #[.int .i64 y.k, .int .u64 (Oct.word y.s 0 : Nat), .int .u64 (Oct.word y.s 1 : Nat), .int .u64 (Oct.word y.s 2 : Nat), .int .u64 (Oct.word y.s 3 : Nat), .slice y.a y.n y.c, .int .i64 y.mn, .int .i64 y.mx] 28))
        have HX5 : Hid (NodeAt _ _ t y) := hy5
        have HD5 : Hid (Dc w A R ⟨k, s, some ⟨g, off, none⟩, n, c, mn, mx⟩ _ _ ts) := hD5
        have HC5 : Hid (∀ j v, y.cells[j]? = some v → _) := cells_new w4 y
        have HL5 : Hid (ts.length ≤ 100000) := by show _ ≤ _; rw [HTL.out]; omega
        have HZ5 : Hid (w.heap.size + 2 ≤ _) := hD5.size
        clear k4 hy hy5 hD5 hu3 hvb HD3 HD4
        go_wp2_with (at_builtin; go_must (refine wpList_append_node rfl _ _ rfl (w.heap.size + 2) _ ts rfl HD5.out.nodes ⟨w4.heap.size, 0, none⟩ 1 y t rfl HX5.out HC5.out HL5.out HZ5.out ?_; intro g' cap' w6 hn6 hg6 hb6; have HD6 : Hid (Dc w A R ⟨k, s, some ⟨g, off, none⟩, n, c, mn, mx⟩ w6 _ (ts ++ [t])) := (HD5.out.more hn6 hg6 hb6); clear hn6 hg6 hb6))
        go_roundw
        case rel => exact ⟨m + 1, by go_num, by omega, by rw [HTK.out]; exact HD6⟩
        case measure => simp [intOf]; omega
      · have hlt' : ¬ (m : Int) < (n : Int) := by omega
        have HTK : Hid (subs.take m = subs) := by show _ = _; rw [List.take_of_length_le (by rw [← HN.out]; omega)]
        rw [HTK.out] at hdc
        clear HTK HIH HRO HSM HW
        have hAR : A ≠ R := by have := HAA.out; have := HRR.out; omega
        by_cases h0 : subs = []
        · obtain ⟨_, _, _, h3, _⟩ := hdc.out.nodes
          obtain rfl := h3 h0
          have HY : Hid (NodeAt (fun b => w.heap.size ≤ b) (put8 (wr.setCell ⟨A, 5, none⟩ (.slice none 0 0)) R ⟨k, s, none, 0, 0, mn, mx⟩) (.mk k s subs mn mx) ⟨k, s, none, 0, 0, mn, mx⟩) := by rw [h0]; exact NodeAt.leaf _ _ k s mn mx none 0
          clear h3 h0
          obtain ⟨b0, b1, b2, b3, b4, b5, b6, b7⟩ := hdc.out.box.cells
          simp only at b0 b1 b2 b3 b4 b5 b6 b7
          have f5 := hdc.out.box.frozen 5
          have HBX : Hid (NB (wr.setCell ⟨A, 5, none⟩ (.slice (none) 0 0)) A ⟨k, s, none, 0, 0, mn, mx⟩) := (heap_set hdc.out.box 5 _).trans rfl
          have HRS : Hid (NB (wr.setCell ⟨A, 5, none⟩ (.slice (none) 0 0)) R zeroNd) := hdc.out.res.set (fun e => hAR e.symm) _ _
          have HBE : Hid (Below w.heap.size w (wr.setCell ⟨A, 5, none⟩ (.slice (none) 0 0))) := hdc.out.be.setCell (p := ⟨A, 5, none⟩) (by rw [HAA.out]; exact Nat.le_refl _) _
          go_upto_region 8 with fail
          obtain ⟨w8, hw8⟩ : ∃ w8, w8 = wr.setCell ⟨A, 5, none⟩ (.slice (none) 0 0) := ⟨_, rfl⟩
          rw [← hw8] at HBX HRS HBE HY ⊢
          clear hw8 b0 b1 b2 b3 b4 b5 b6 b7 f5
          obtain ⟨b0, b1, b2, b3, b4, b5, b6, b7⟩ := HBX.out.cells
          simp only at b0 b1 b2 b3 b4 b5 b6 b7
          obtain ⟨z0, z1, z2, z3, z4, z5, z6, z7⟩ := HRS.out.cells
          have y0 := HRS.out.frozen 0
          have y1 := HRS.out.frozen 1
          have y2 := HRS.out.frozen 2
          have y3 := HRS.out.frozen 3
          have y4 := HRS.out.frozen 4
          have y5 := HRS.out.frozen 5
          have y6 := HRS.out.frozen 6
          have y7 := HRS.out.frozen 7
          have HFI : Hid ((∃ y : Nd, Ending.returned (Nd.val ⟨k, s, none, 0, 0, mn, mx⟩) = .returned y.val ∧ NodeAt (fun b => w.heap.size ≤ b) (put8 w8 R ⟨k, s, none, 0, 0, mn, mx⟩) (.mk k s subs mn mx) y) ∧ Below w.heap.size w (put8 w8 R ⟨k, s, none, 0, 0, mn, mx⟩)) := ⟨⟨_, rfl, HY.out⟩, below_put8 HBE.out (by rw [HRR.out]; omega) _⟩
          have HPU : Hid (NB (put8 w8 R ⟨k, s, none, 0, 0, mn, mx⟩) R ⟨k, s, none, 0, 0, mn, mx⟩) := HRS.out.put8 _
          go_wp2
          show bodyPost _ _ _ _ _ (put8 w8 R ⟨k, s, none, 0, 0, mn, mx⟩)
          exact post_node Try.f11 2 rfl rfl rfl HPU.out HFI.out
        · obtain ⟨g, cap, vs', rfl, h1, hcap, hrow, hsub⟩ := hdc.out.nodes.row h0
          have HY : Hid (NodeAt (fun b => w.heap.size ≤ b) (put8 (wr.setCell ⟨A, 5, none⟩ (.slice (some ⟨g, 0, none⟩) subs.length cap)) R ⟨k, s, some ⟨g, 0, none⟩, subs.length, cap, mn, mx⟩) (.mk k s subs mn mx) ⟨k, s, some ⟨g, 0, none⟩, subs.length, cap, mn, mx⟩) := by
            have hA2 := HAA.out
            have hR2 := HRR.out
            have hnode : NodeAt (fun b => w.heap.size + 2 ≤ b) wr (.mk k s subs mn mx) ⟨k, s, some ⟨g, 0, none⟩, subs.length, cap, mn, mx⟩ := .mk k s subs mn mx _ _ cap vs' rfl h1 hrow hsub
            exact hnode.keep (fun b hb _ => by omega) (fun b hb _ => (heap_put8 _ R _ b (by omega)).trans (Below.heap_setCell wr ⟨A, 5, none⟩ _ b (by simp; omega)))
          obtain ⟨LL, hLL⟩ : ∃ LL, LL = subs.length := ⟨_, rfl⟩
          rw [← hLL] at HY hdc ⊢
          clear hsub hrow h1 hcap hLL h0
          obtain ⟨b0, b1, b2, b3, b4, b5, b6, b7⟩ := hdc.out.box.cells
          simp only at b0 b1 b2 b3 b4 b5 b6 b7
          have f5 := hdc.out.box.frozen 5
          have HBX : Hid (NB (wr.setCell ⟨A, 5, none⟩ (.slice (some ⟨g, 0, none⟩) LL cap)) A ⟨k, s, some ⟨g, 0, none⟩, LL, cap, mn, mx⟩) := (heap_set hdc.out.box 5 _).trans rfl
          have HRS : Hid (NB (wr.setCell ⟨A, 5, none⟩ (.slice (some ⟨g, 0, none⟩) LL cap)) R zeroNd) := hdc.out.res.set (fun e => hAR e.symm) _ _
          have HBE : Hid (Below w.heap.size w (wr.setCell ⟨A, 5, none⟩ (.slice (some ⟨g, 0, none⟩) LL cap))) := hdc.out.be.setCell (p := ⟨A, 5, none⟩) (by rw [HAA.out]; exact Nat.le_refl _) _
          go_upto_region 8 with fail
          obtain ⟨w8, hw8⟩ : ∃ w8, w8 = wr.setCell ⟨A, 5, none⟩ (.slice (some ⟨g, 0, none⟩) LL cap) := ⟨_, rfl⟩
          rw [← hw8] at HBX HRS HBE HY ⊢
          clear hw8 b0 b1 b2 b3 b4 b5 b6 b7 f5
          obtain ⟨b0, b1, b2, b3, b4, b5, b6, b7⟩ := HBX.out.cells
          simp only at b0 b1 b2 b3 b4 b5 b6 b7
          obtain ⟨z0, z1, z2, z3, z4, z5, z6, z7⟩ := HRS.out.cells
          have y0 := HRS.out.frozen 0
          have y1 := HRS.out.frozen 1
          have y2 := HRS.out.frozen 2
          have y3 := HRS.out.frozen 3
          have y4 := HRS.out.frozen 4
          have y5 := HRS.out.frozen 5
          have y6 := HRS.out.frozen 6
          have y7 := HRS.out.frozen 7
          have HFI : Hid ((∃ y : Nd, Ending.returned (Nd.val ⟨k, s, some ⟨g, 0, none⟩, LL, cap, mn, mx⟩) = .returned y.val ∧ NodeAt (fun b => w.heap.size ≤ b) (put8 w8 R ⟨k, s, some ⟨g, 0, none⟩, LL, cap, mn, mx⟩) (.mk k s subs mn mx) y) ∧ Below w.heap.size w (put8 w8 R ⟨k, s, some ⟨g, 0, none⟩, LL, cap, mn, mx⟩)) := ⟨⟨_, rfl, HY.out⟩, below_put8 HBE.out (by rw [HRR.out]; omega) _⟩
          have HPU : Hid (NB (put8 w8 R ⟨k, s, some ⟨g, 0, none⟩, LL, cap, mn, mx⟩) R ⟨k, s, some ⟨g, 0, none⟩, LL, cap, mn, mx⟩) := HRS.out.put8 _
          go_wp2
          show bodyPost _ _ _ _ _ (put8 w8 R ⟨k, s, some ⟨g, 0, none⟩, LL, cap, mn, mx⟩)
          exact post_node Try.f11 2 rfl rfl rfl HPU.out HFI.out
end Go.Proofs.Ytlcnmfgmgiijpaa
