
import Derived.Test.YtmjnobdlgbojoaaGreatDoorG08
namespace Go.Proofs.YtmjnobdlgbojoaaGreatDoor
open Go.RowKit
structure Pre (w : World) (B : Nat) (s : ByteArray) (i d : Nat) : Prop where
  rd : RB w B s i d
  hi : i ≤ s.size
  hs : s.size ≤ 1024
  gm : GM w
  hB0 : 2 ≤ B
  hd : d ≤ 64
def PatOK (n : Nat) : Prop := ∀ (B i d : Nat) (s : ByteArray) (w : World), Pre w B s i d → pat s n d i ≠ .out → Calls Tryz.prog 62 #[.pointer (some ⟨B, 0, none⟩)] w (Reads w B s d (pat s n d i) (TreeV w.heap.size))
def AltOK (n : Nat) : Prop := ∀ (B i d : Nat) (s : ByteArray) (w : World), Pre w B s i d → alt s n d i ≠ .out → Calls Tryz.prog 77 #[.pointer (some ⟨B, 0, none⟩)] w (Reads w B s d (alt s n d i) (TreeV w.heap.size))
def PieceOK (n : Nat) : Prop := ∀ (B i d : Nat) (s : ByteArray) (w : World), Pre w B s i d → i < s.size → piece s n d i ≠ .out → Calls Tryz.prog 84 #[.pointer (some ⟨B, 0, none⟩)] w (Reads w B s d (piece s n d i) (TreeV w.heap.size))
def AtomOK (n : Nat) : Prop := ∀ (B i d : Nat) (s : ByteArray) (w : World), Pre w B s i d → i < s.size → atom s n d i ≠ .out → Calls Tryz.prog 86 #[.pointer (some ⟨B, 0, none⟩)] w (Reads w B s d (atom s n d i) (TreeV w.heap.size))
def GroupOK (n : Nat) : Prop := ∀ (B i d : Nat) (s : ByteArray) (w : World), Pre w B s i d → i < s.size → group s n d i ≠ .out → Calls Tryz.prog 88 #[.pointer (some ⟨B, 0, none⟩)] w (Reads w B s d (group s n d i) (TreeV w.heap.size))
structure Pt (w : World) (s : ByteArray) (B R d : Nat) (u : World) (i : Nat) (V : Value) (ts : List Tr) : Prop where
  res : NB u R zeroNd
  rd : RB u B s i d
  gm : GM u
  grown : w.grownBy u (some B)
  nodes : Nodes u (w.heap.size + 1) V ts
  hR : R = w.heap.size
  hB : B < w.heap.size
  hB0 : 2 ≤ B
section
variable {w : World} {s : ByteArray} {B R d : Nat} {u u' : World} {i : Nat} {V : Value} {ts : List Tr}
theorem Pt.later (h : Pt w s B R d u i V ts) (hb : Below u.heap.size u u') : Pt w s B R d u' i V ts :=
  ⟨h.res.later hb, h.rd.later hb, h.gm.later hb, grown_below h.grown hb, h.nodes.keep (fun b _ hlt => hb.block b hlt), h.hR, h.hB, h.hB0⟩
theorem Pt.read (h : Pt w s B R d u i V ts) {j : Nat} (hg : u.grownBy u' (some B)) (hr : RB u' B s j d) : Pt w s B R d u' j V ts := by
  have h1 := h.hR
  have h2 := h.hB
  exact ⟨h.res.grown hg (by simp; omega), hr, h.gm.grown hg h.hB0, grown_trans h.grown hg, h.nodes.keep (fun b hb hlt => hg.block b hlt (by simp; omega)), h1, h2, h.hB0⟩
theorem Pt.size (h : Pt w s B R d u i V ts) : w.heap.size + 1 ≤ u.heap.size := by have := h.res.lt; have := h.hR; omega
theorem Pt.more (h : Pt w s B R d u i V ts) {V' : Value} {ts' : List Tr} (hn : Nodes u' (w.heap.size + 1) V' ts') (hg : u.grownBy u' V.ownBlock) (hb : ∀ k, V.ownBlock = some k → w.heap.size + 1 ≤ k) : Pt w s B R d u' i V' ts' := by
  have h1 := h.hR
  have h2 := h.hB
  have hlow : ∀ k, k < w.heap.size + 1 → k < u.heap.size → u'.heap[k]? = u.heap[k]? := fun k hk hlt => hg.block k hlt (fun e => by have := hb k e.symm; omega)
  refine ⟨(hlow R (by omega) h.res.lt).trans h.res, (hlow B (by omega) h.rd.lt).trans h.rd, ?_, ?_, hn, h1, h2, h.hB0⟩
  · obtain ⟨m, hm⟩ := h.gm
    exact ⟨m, by rw [World.cell?_of_block (w := u) (hlow 1 (by have := h.hB0; omega) (World.block_lt_of_cell? u _ hm))]; exact hm⟩
  · exact ⟨hg.os.trans h.grown.os, hg.tape.trans h.grown.tape, hg.output.trans h.grown.output, Nat.le_trans h.grown.size hg.size, fun k hk hne => (hlow k (by omega) (Nat.lt_of_lt_of_le hk h.grown.size)).trans (h.grown.block k hk hne)⟩
end
theorem pre_of {w : World} {s : ByteArray} {B R d : Nat} {u : World} {i : Nat} {V : Value} {ts : List Tr} (h : Pt w s B R d u i V ts) (hi : i ≤ s.size) (hs : s.size ≤ 1024) (hd : d ≤ 64) : Pre u B s i d := ⟨h.rd, hi, hs, h.gm, h.hB0, hd⟩
theorem wpList_append_node {w : World} {ops : Array Oper} {rest : List Oper} {o : Oper} {a : Act} {Q : Exit → Act → World → Prop} (hgd : o.guard = none) (s y : Operand)
    (ho : o.op = .call { callee := .builtin .append, args := #[s, y], argTypes := #[24, 24] })
    (base : Nat) (V : Value) (ts : List Tr) (hs : a.eval s = V) (hn : Nodes w base V ts) (ad : Addr) (cap : Nat) (x : Nd) (t : Tr) (hy : a.eval y = .slice (some ad) 1 cap) (hx : NodeAt (fun b => base ≤ b ∧ V.ownBlock ≠ some b) w t x) (hc : ∀ j v, x.cells[j]? = some v → w.cell? (ad.add j) = some v) (hl : ts.length ≤ 100000) (hb : base ≤ w.heap.size)
    (h : ∀ g cap' w', Nodes w' base (.slice (some ⟨g, 0, none⟩) (ts.length + 1) cap') (ts ++ [t]) → w.grownBy w' V.ownBlock → (∀ k, V.ownBlock = some k → base ≤ k) → wpList Tryz.prog ops Q rest (a.put o.dst (.slice (some ⟨g, 0, none⟩) (ts.length + 1) cap')) w') : wpList Tryz.prog ops Q (o :: rest) a w := by
  refine wpList_plain hgd fun K hK => ?_
  obtain ⟨g, cap', w', hr, h2, h3, h4⟩ := run_append_node w o.type base V ts hn ad cap x t hx hc hl hb
  unfold Oper.wp execOp
  simp only [ho, resolve, invoke, builtin, Sem.run_bind, Sem.run_pure, Result.andThen_ok, List.map_toArray, List.map_cons, List.map_nil, hs, hy, hr]
  exact hK _ _ (h g cap' w' h2 h3 h4)
theorem cells_new (u : World) (x : Nd) : ∀ j v, x.cells[j]? = some v → (u.alloc (.cells #[.int .i64 x.k, .int .u64 (Oct.word x.s 0 : Nat), .int .u64 (Oct.word x.s 1 : Nat), .int .u64 (Oct.word x.s 2 : Nat), .int .u64 (Oct.word x.s 3 : Nat), .slice x.a x.n x.c, .int .i64 x.mn, .int .i64 x.mx] 30)).cell? ((⟨u.heap.size, 0, none⟩ : Addr).add j) = some v := by
  intro j v hj
  rw [Go.WideShapes.add_plain, Nat.zero_add, World.cell?_alloc_mark]
  simpa [Nd.cells] using hj
theorem nodes_one {u : World} {base : Nat} {t : Tr} {x : Nd} (hx : NodeAt (fun b => base ≤ b) u t x) (hb : base ≤ u.heap.size) : Nodes (u.alloc (.cells #[.int .i64 x.k, .int .u64 (Oct.word x.s 0 : Nat), .int .u64 (Oct.word x.s 1 : Nat), .int .u64 (Oct.word x.s 2 : Nat), .int .u64 (Oct.word x.s 3 : Nat), .slice x.a x.n x.c, .int .i64 x.mn, .int .i64 x.mx] 30)) base (.slice (some ⟨u.heap.size, 0, none⟩) 1 1) [t] := by
  refine ⟨[x], rfl, ⟨by rw [flatN_length]; rfl, Or.inr ⟨u.heap.size, 1, _, rfl, hb, heap_alloc_new u _, Nat.le_refl _, by simp [maxLen], rfl, by simp [flatN, Nd.cells]⟩⟩, fun e => by simp at e, fun _ => ⟨_, _, rfl⟩, fun i t' v' h1 h2 => ?_⟩
  cases i with
  | zero =>
    simp at h1 h2
    subst h1 h2
    exact hx.keep (fun b hb2 hlt => ⟨hb2, by simp [Value.ownBlock]; omega⟩) (fun b _ hlt => ((Below.refl _ u).alloc (Nat.le_refl _) _).block b hlt)
  | succ i => simp at h1
end Go.Proofs.YtmjnobdlgbojoaaGreatDoor


namespace Go.Proofs.YtmjnobdlgbojoaaGreatDoor
open Go.RowKit
attribute [local go_sem ↓] Go.wp_at_zero Go.wp_at_succ
def TyB (w : World) (t : TypeId) (b : Nat) : Prop := ∃ c z, w.heap[b]? = some (.cells c t z)
theorem TyB.same {w w' : World} {t : TypeId} {b : Nat} (h : TyB w t b) (e : w'.heap[b]? = w.heap[b]?) : TyB w' t b := by
  obtain ⟨c, z, hc⟩ := h
  exact ⟨c, z, e.trans hc⟩
theorem TyB.ne {w : World} {t u : TypeId} {b : Nat} (h : TyB w t b) (h2 : TyB w u b) : t = u := by
  obtain ⟨c, z, hc⟩ := h
  obtain ⟨c', z', hc'⟩ := h2
  rw [hc] at hc'
  simp at hc'
  exact hc'.2.1
section
variable {b0 B : Nat} {w u w' : World}
end
section
variable {w w' : World} {b0 B : Nat} {s : ByteArray} {i d e a : Nat}
end
end Go.Proofs.YtmjnobdlgbojoaaGreatDoor


namespace Go.Proofs.YtmjnobdlgbojoaaGreatDoor
theorem count_ge {s : ByteArray} {o i n j : Nat} (h : count s o i = .ok n j) : i ≤ j := (count_ok_le h).2
theorem countsEnd_ge {s : ByteArray} {o k j : Nat} {l m : Int} {x : Int × Int} (h : countsEnd s o l m k = .ok x j) : j = k := by
  unfold countsEnd at h
  split at h
  · cases h; rfl
  · cases h
theorem counts_ge {s : ByteArray} {i j : Nat} {x : Int × Int} (h : counts s i = .ok x j) : i < j := by
  unfold counts at h
  split at h
  · rename_i l k hc
    have h1 := count_ge hc
    split at h
    · split at h
      · have := countsEnd_ge h; omega
      · split at h
        · rename_i m k2 hc2
          have h2 := count_ge hc2
          have := countsEnd_ge h
          omega
        · cases h
        · cases h
    · have := countsEnd_ge h; omega
  · cases h
  · cases h
theorem repeated_ge {s : ByteArray} {t u : Tr} {i j : Nat} (h : repeated s t i = .ok u j) : i ≤ j := by
  unfold repeated at h
  split at h
  · cases h; omega
  · split at h
    · cases h; omega
    · split at h
      · cases h; omega
      · split at h
        · split at h
          · rename_i l m k hc
            cases h
            have := counts_ge hc
            omega
          · cases h
          · cases h
        · cases h; omega
theorem item_ge {s : ByteArray} {o i j : Nat} {x : Oct.S} (h : item s o i = .ok x j) : i < j := by
  unfold item at h
  split at h
  · cases h
  · split at h
    · unfold class_ at h
      split at h
      · split at h
        · cases h; omega
        · cases h
      · cases h
    · split at h
      · cases h
      · split at h
        · unfold span_ at h
          split at h
          · cases h
          · cases h; omega
        · cases h; omega
theorem setLoop_ge {s : ByteArray} {o f i j : Nat} {a x : Oct.S} (h : setLoop s o f a i = .ok x j) : i < j := by
  induction f generalizing a i with
  | zero => simp [setLoop] at h
  | succ f ih =>
    rw [setLoop] at h
    split at h
    · cases h; omega
    · split at h
      · rename_i b k hc
        have := item_ge hc
        have := ih h
        omega
      · cases h
      · cases h
theorem setOf_ge {s : ByteArray} {f i j : Nat} {x : Oct.S} (h : setOf s f i = .ok x j) : i < j := by
  unfold setOf at h
  split at h
  · rename_i a k hc
    have h1 := item_ge hc
    have h2 : i < k := by
      split at h1 <;> omega
    split at h
    · rename_i b k2 hc2
      cases h
      have := setLoop_ge hc2
      omega
    · cases h
    · cases h
  · cases h
  · cases h
theorem read_ge (s : ByteArray) (n : Nat) : (∀ d i t j, pat s n d i = .ok t j → i ≤ j) ∧ (∀ d acc i t j, patLoop s n d acc i = .ok t j → i ≤ j) ∧ (∀ d i t j, alt s n d i = .ok t j → i ≤ j) ∧ (∀ d acc i t j, altLoop s n d acc i = .ok t j → i ≤ j) ∧ (∀ d i t j, piece s n d i = .ok t j → i < j) ∧ (∀ d i t j, atom s n d i = .ok t j → i < j) ∧ (∀ d i t j, group s n d i = .ok t j → i < j) := by
  induction n with
  | zero => refine ⟨?_, ?_, ?_, ?_, ?_, ?_, ?_⟩ <;> intros <;> rename_i h <;> simp [pat, patLoop, alt, altLoop, piece, atom, group] at h
  | succ n ih =>
    obtain ⟨i1, i2, i3, i4, i5, i6, i7⟩ := ih
    refine ⟨fun d i t j h => ?_, fun d acc i t j h => ?_, fun d i t j h => ?_, fun d acc i t j h => ?_, fun d i t j h => ?_, fun d i t j h => ?_, fun d i t j h => ?_⟩
    · rw [pat] at h
      split at h
      · rename_i t1 k hc
        have := i3 _ _ _ _ hc
        have := i2 _ _ _ _ _ h
        omega
      · cases h
      · cases h
    · rw [patLoop] at h
      split at h
      · split at h
        · rename_i t1 k hc
          have := i3 _ _ _ _ hc
          have := i2 _ _ _ _ _ h
          omega
        · cases h
        · cases h
      · cases h; omega
    · rw [alt] at h
      exact i4 _ _ _ _ _ h
    · rw [altLoop] at h
      split at h
      · split at h
        · rename_i t1 k hc
          have := i5 _ _ _ _ hc
          have := i4 _ _ _ _ _ h
          omega
        · cases h
        · cases h
      · cases h; omega
    · rw [piece] at h
      split at h
      · cases h; omega
      · split at h
        · cases h; omega
        · split at h
          · rename_i t1 k hc
            have := i6 _ _ _ _ hc
            have := repeated_ge h
            omega
          · cases h
          · cases h
    · rw [atom] at h
      split at h
      · cases h
      · split at h
        · exact i7 _ _ _ _ h
        · split at h
          · split at h
            · rename_i a k hc
              cases h
              exact setOf_ge hc
            · cases h
            · cases h
          · split at h
            · cases h; omega
            · split at h
              · split at h
                · cases h
                · cases h; omega
              · cases h; omega
    · rw [group] at h
      split at h
      · cases h
      · split at h
        · rename_i t1 k hc
          have := i1 _ _ _ _ hc
          split at h
          · cases h
          · cases h; omega
        · cases h
        · cases h
end Go.Proofs.YtmjnobdlgbojoaaGreatDoor


namespace Go.Proofs.YtmjnobdlgbojoaaGreatDoor
open Go.RowKit
attribute [local go_sem ↓] Go.wp_at_zero Go.wp_at_succ
theorem Nodes.blt {w : World} {base : Nat} {V : Value} {ts : List Tr} (h : Nodes w base V ts) : ∀ b, V.ownBlock = some b → b < w.heap.size := by
  obtain ⟨vs, h1, h2, h3, h4, h5⟩ := h
  intro b hb
  rcases h2.2 with ⟨rfl, _⟩ | ⟨g, cap, cur, rfl, _, hg, _⟩
  · simp [Value.ownBlock] at hb
  · simp [Value.ownBlock] at hb
    have := (Array.getElem?_eq_some_iff.1 hg).1
    omega
set_option maxRecDepth 4000 in
set_option maxHeartbeats 4000000 in
theorem alt_walk (n : Nat) (H : ∀ m, m < n → PieceOK m) : AltOK n := by
  intro B i d s w pre hout
  obtain ⟨k, rfl⟩ : ∃ k, n = k + 1 := by
    cases n with
    | zero => exact absurd (by simp [alt]) hout
    | succ k => exact ⟨k, rfl⟩
  have HO : Hid (alt s (k + 1) d i ≠ .out) := hout
  have HP : Hid (∀ m, m < k + 1 → PieceOK m) := H
  have hi := pre.hi
  have hs := pre.hs
  have hd := pre.hd
  have hal : Below w.heap.size w (w.alloc (.cells #[.int .i64 0, .int .u64 0, .int .u64 0, .int .u64 0, .int .u64 0, .slice none 0 0, .int .i64 0, .int .i64 0] 30)) := (Below.refl _ _).alloc (Nat.le_refl _) _
  have HS : Hid (Pt w s B w.heap.size d (w.alloc (.cells #[.int .i64 0, .int .u64 0, .int .u64 0, .int .u64 0, .int .u64 0, .slice none 0 0, .int .i64 0, .int .i64 0] 30)) i (.slice none 0 0) []) :=
    ⟨nb_zero w, pre.rd.later hal, pre.gm.later hal, grown_below (grown_refl _ _) hal, nodes_nil _ _, rfl, pre.rd.lt, pre.hB0⟩
  obtain ⟨w1, hw1⟩ : ∃ w1, w1 = w.alloc (.cells #[.int .i64 0, .int .u64 0, .int .u64 0, .int .u64 0, .int .u64 0, .slice none 0 0, .int .i64 0, .int .i64 0] 30) := ⟨_, rfl⟩
  obtain ⟨R, hR⟩ : ∃ R, R = w.heap.size := ⟨_, rfl⟩
  rw [← hw1, ← hR] at HS
  have HW1 : Hid (w1 = _) := hw1
  have HRR : Hid (R = _) := hR
  clear hw1 hR hal pre hout H
  go_enter Tryz.func77, Tryz.ntmps77
  go_upto_region 1 with fail
  rw [← HW1.out, ← HRR.out]
  clear HW1
  go_wp2_with fail
  go_loopw [3] (fun V u => ∃ (m : Nat) (ts : List Tr) (j : Nat), m < k + 1 ∧ j ≤ s.size ∧ ts.length ≤ j ∧ Hid (Pt w s B R d u j V ts) ∧ Hid (alt s (k + 1) d i = altLoop s m d ts j)) (fun _ u => 4000 - (intOf ((u.cell? ⟨B, 1, none⟩).getD undef)).toNat)
  case atStart => exact ⟨k, [], i, by omega, hi, by simp, HS, by show _ = _; rw [alt]⟩
  case round =>
    clear HS
    obtain ⟨m, ts, j, hm, hj, htl, hpt, hal⟩ := hrel
    have HM : Hid (4000 - (intOf ((wr.cell? ⟨B, 1, none⟩).getD undef)).toNat = 4000 - j) := by show _ = _; rw [hpt.out.rd.cells.2.1]; simp [intOf]
    obtain ⟨m, rfl⟩ : ∃ m', m = m' + 1 := by
      cases m with
      | zero => exact absurd (hal.out.trans (by simp [altLoop])) HO.out
      | succ m => exact ⟨m, rfl⟩
    have HEND : Hid ((decide (j < s.size) && !(sees s j 124) && !(sees s j 41)) = false → alt s (k + 1) d i = .ok (together 3 ts) j) := fun h => by rw [hal.out, altLoop, h]; rfl
    go_wp2_with fail
    refine (ended_any B j d s wr hpt.out.rd).mono ?_
    rintro e u1 ⟨rfl, kk⟩
    have HS1 : Hid (Pt w s B R d u1 j _ ts) := hpt.out.later kk
    clear kk
    by_cases hend : j = s.size
    · have HX : Hid (alt s (k + 1) d i = .ok (together 3 ts) j) := HEND.out (by simp [hend])
      rw [decide_eq_true hend]
      clear hend
      go_wp2_with fail
      refine (together_any 3 (w.heap.size + 1) _ ts u1 HS1.out.nodes (by omega)).mono ?_
      rintro e u7 ⟨⟨v, rfl, x, rfl, hx⟩, kk⟩
      have HS7 : Hid (Pt w s B R d u7 j _ ts) := HS1.out.later kk
      have HX7 : Hid (NodeAt (fun b => w.heap.size + 1 ≤ b) u7 (together 3 ts) x) := hx
      clear kk hx HS1
      obtain ⟨z0, z1, z2, z3, z4, z5, z6, z7⟩ := HS7.out.res.cells
      have y0 := HS7.out.res.frozen 0
      have y1 := HS7.out.res.frozen 1
      have y2 := HS7.out.res.frozen 2
      have y3 := HS7.out.res.frozen 3
      have y4 := HS7.out.res.frozen 4
      have y5 := HS7.out.res.frozen 5
      have y6 := HS7.out.res.frozen 6
      have y7 := HS7.out.res.frozen 7
      unfold Nd.val
      go_wp2
      refine post_node Tryz.f77 2 rfl rfl rfl (HS7.out.res.put8 x) ?_
      unfold Reads
      rw [HX.out]
      have hRb := HS7.out.hR
      have hBb := HS7.out.hB
      exact ⟨hj, _, rfl, ⟨_, rfl, HX7.out.keep (fun b hb _ => by omega) (fun b hb _ => heap_put8 _ R _ b (by omega))⟩, put8_rb HS7.out.rd (by omega) _, put8_grown HS7.out.grown (by omega) _⟩
    · have hlt : j < s.size := by omega
      rw [decide_eq_false hend]
      clear hend
      go_wp2_with fail
      refine (sees_any B j d 124 s u1 HS1.out.rd hj).mono ?_
      rintro e u2 ⟨rfl, kk⟩
      have HS2 : Hid (Pt w s B R d u2 j _ ts) := HS1.out.later kk
      clear kk HS1
      cases h124 : sees s j 124 with
      | true =>
        have HX : Hid (alt s (k + 1) d i = .ok (together 3 ts) j) := HEND.out (by simp [h124])
        have HS1 := HS2
        clear h124 HS2
        go_wp2_with fail
        refine (together_any 3 (w.heap.size + 1) _ ts u2 HS1.out.nodes (by omega)).mono ?_
        rintro e u7 ⟨⟨v, rfl, x, rfl, hx⟩, kk⟩
        have HS7 : Hid (Pt w s B R d u7 j _ ts) := HS1.out.later kk
        have HX7 : Hid (NodeAt (fun b => w.heap.size + 1 ≤ b) u7 (together 3 ts) x) := hx
        clear kk hx HS1
        obtain ⟨z0, z1, z2, z3, z4, z5, z6, z7⟩ := HS7.out.res.cells
        have y0 := HS7.out.res.frozen 0
        have y1 := HS7.out.res.frozen 1
        have y2 := HS7.out.res.frozen 2
        have y3 := HS7.out.res.frozen 3
        have y4 := HS7.out.res.frozen 4
        have y5 := HS7.out.res.frozen 5
        have y6 := HS7.out.res.frozen 6
        have y7 := HS7.out.res.frozen 7
        unfold Nd.val
        go_wp2
        refine post_node Tryz.f77 2 rfl rfl rfl (HS7.out.res.put8 x) ?_
        unfold Reads
        rw [HX.out]
        have hRb := HS7.out.hR
        have hBb := HS7.out.hB
        exact ⟨hj, _, rfl, ⟨_, rfl, HX7.out.keep (fun b hb _ => by omega) (fun b hb _ => heap_put8 _ R _ b (by omega))⟩, put8_rb HS7.out.rd (by omega) _, put8_grown HS7.out.grown (by omega) _⟩
      | false =>
        have H124 : Hid (sees s j 124 = false) := h124
        clear h124
        go_wp2_with fail
        refine (sees_any B j d 41 s u2 HS2.out.rd hj).mono ?_
        rintro e u3 ⟨rfl, kk⟩
        have HS3 : Hid (Pt w s B R d u3 j _ ts) := HS2.out.later kk
        clear kk HS2
        cases h41 : sees s j 41 with
        | true =>
          have HX : Hid (alt s (k + 1) d i = .ok (together 3 ts) j) := HEND.out (by simp [h41])
          have HS1 := HS3
          clear h41 HS3
          go_wp2_with fail
          refine (together_any 3 (w.heap.size + 1) _ ts u3 HS1.out.nodes (by omega)).mono ?_
          rintro e u7 ⟨⟨v, rfl, x, rfl, hx⟩, kk⟩
          have HS7 : Hid (Pt w s B R d u7 j _ ts) := HS1.out.later kk
          have HX7 : Hid (NodeAt (fun b => w.heap.size + 1 ≤ b) u7 (together 3 ts) x) := hx
          clear kk hx HS1
          obtain ⟨z0, z1, z2, z3, z4, z5, z6, z7⟩ := HS7.out.res.cells
          have y0 := HS7.out.res.frozen 0
          have y1 := HS7.out.res.frozen 1
          have y2 := HS7.out.res.frozen 2
          have y3 := HS7.out.res.frozen 3
          have y4 := HS7.out.res.frozen 4
          have y5 := HS7.out.res.frozen 5
          have y6 := HS7.out.res.frozen 6
          have y7 := HS7.out.res.frozen 7
          unfold Nd.val
          go_wp2
          refine post_node Tryz.f77 2 rfl rfl rfl (HS7.out.res.put8 x) ?_
          unfold Reads
          rw [HX.out]
          have hRb := HS7.out.hR
          have hBb := HS7.out.hB
          exact ⟨hj, _, rfl, ⟨_, rfl, HX7.out.keep (fun b hb _ => by omega) (fun b hb _ => heap_put8 _ R _ b (by omega))⟩, put8_rb HS7.out.rd (by omega) _, put8_grown HS7.out.grown (by omega) _⟩
        | false =>
          have HGO : Hid (alt s (k + 1) d i = match piece s m d j with
            | .ok t j' => altLoop s m d (ts ++ [t]) j'
            | .bad a e => .bad a e
            | .out => .out) := by
            show _ = _
            rw [hal.out, altLoop, H124.out, h41, decide_eq_true hlt]
            rfl
          clear h41
          go_wp2_with fail
          have hpo : piece s m d j ≠ .out := fun e => HO.out (by rw [HGO.out, e])
          refine (HP.out m (by omega) B j d s u3 (pre_of HS3.out hj hs hd) hlt hpo).mono ?_
          intro e u4 h4
          clear hpo
          cases hc : piece s m d j with
          | out => rw [hc] at h4; exact h4.elim
          | bad a c =>
            rw [hc] at h4 HGO
            obtain ⟨rfl, hg4⟩ := h4
            have HG4 : Hid (w.grownBy u4 (some B)) := grown_trans HS3.out.grown hg4
            clear hc hg4
            go_wp2
            refine ⟨rfl, ?_⟩
            unfold Reads
            rw [HGO.out]
            exact ⟨rfl, HG4.out⟩
          | ok t j' =>
            have hjj := (read_ge s m).2.2.2.2.1 _ _ _ _ hc
            rw [hc] at h4 HGO
            obtain ⟨hj', v, rfl, ⟨x, rfl, hx⟩, hr4, hg4⟩ := h4
            have HS4 : Hid (Pt w s B R d u4 j' _ ts) := HS3.out.read hg4 hr4
            have hu3 := HS3.out.size
            have hvb : ∀ b, Value.ownBlock _ = some b → b < u3.heap.size := Nodes.blt HS3.out.nodes
            have hx5 := hx.keep (Y := fun b => w.heap.size + 1 ≤ b ∧ Value.ownBlock _ ≠ some b) (w' := u4.alloc (.cells #[.int .i64 x.k, .int .u64 (Oct.word x.s 0 : Nat), .int .u64 (Oct.word x.s 1 : Nat), .int .u64 (Oct.word x.s 2 : Nat), .int .u64 (Oct.word x.s 3 : Nat), .slice x.a x.n x.c, .int .i64 x.mn, .int .i64 x.mx] 30)) (fun b hb _ => ⟨by omega, fun e => by have := hvb b e; omega⟩) (fun b _ hlt => ((Below.refl _ u4).alloc (Nat.le_refl _) _).block b hlt)
            have hS5 := HS4.out.later ((Below.refl _ u4).alloc (Nat.le_refl _) (.cells #[.int .i64 x.k, .int .u64 (Oct.word x.s 0 : Nat), .int .u64 (Oct.word x.s 1 : Nat), .int .u64 (Oct.word x.s 2 : Nat), .int .u64 (Oct.word x.s 3 : Nat), .slice x.a x.n x.c, .int .i64 x.mn, .int .i64 x.mx] 30))
            have HX5 : Hid (NodeAt _ _ t x) := hx5
            have HS5 : Hid (Pt w s B R d _ j' _ ts) := hS5
            have HC5 : Hid (∀ j v, x.cells[j]? = some v → _) := cells_new u4 x
            have HL5 : Hid (ts.length ≤ 100000) := by show _ ≤ _; omega
            have HZ5 : Hid (w.heap.size + 1 ≤ _) := hS5.size
            clear hc hr4 hg4 hx hx5 hS5 hu3 hvb HS3 HS4
            unfold Nd.val
            go_wp2_with (at_builtin; go_must (refine wpList_append_node rfl _ _ rfl (w.heap.size + 1) _ ts rfl HS5.out.nodes ⟨u4.heap.size, 0, none⟩ 1 x t rfl HX5.out HC5.out HL5.out HZ5.out ?_; intro g cap' w6 hn6 hg6 hb6; have HS6 : Hid (Pt w s B R d w6 j' _ (ts ++ [t])) := (HS5.out.more hn6 hg6 hb6); clear hn6 hg6 hb6))
            go_roundw
            case rel => exact ⟨m, ts ++ [t], j', by omega, hj', by simp; omega, HS6, HGO⟩
            case measure =>
              rw [HM.out, HS6.out.rd.cells.2.1]
              simp [intOf]
              omega
end Go.Proofs.YtmjnobdlgbojoaaGreatDoor


namespace Go.Proofs.YtmjnobdlgbojoaaGreatDoor
open Go.RowKit
attribute [local go_sem ↓] Go.wp_at_zero Go.wp_at_succ
set_option maxRecDepth 4000 in
set_option maxHeartbeats 4000000 in
theorem pat_walk (n : Nat) (H : ∀ m, m < n → AltOK m) : PatOK n := by
  intro B i d s w pre hout
  obtain ⟨k, rfl⟩ : ∃ k, n = k + 1 := by
    cases n with
    | zero => exact absurd (by simp [pat]) hout
    | succ k => exact ⟨k, rfl⟩
  have HO : Hid (pat s (k + 1) d i ≠ .out) := hout
  have HP : Hid (∀ m, m < k + 1 → AltOK m) := H
  have hi := pre.hi
  have hs := pre.hs
  have hd := pre.hd
  have hal : Below w.heap.size w (w.alloc (.cells #[.int .i64 0, .int .u64 0, .int .u64 0, .int .u64 0, .int .u64 0, .slice none 0 0, .int .i64 0, .int .i64 0] 30)) := (Below.refl _ _).alloc (Nat.le_refl _) _
  have HS : Hid (Pt w s B w.heap.size d (w.alloc (.cells #[.int .i64 0, .int .u64 0, .int .u64 0, .int .u64 0, .int .u64 0, .slice none 0 0, .int .i64 0, .int .i64 0] 30)) i (.slice none 0 0) []) :=
    ⟨nb_zero w, pre.rd.later hal, pre.gm.later hal, grown_below (grown_refl _ _) hal, nodes_nil _ _, rfl, pre.rd.lt, pre.hB0⟩
  obtain ⟨w1, hw1⟩ : ∃ w1, w1 = w.alloc (.cells #[.int .i64 0, .int .u64 0, .int .u64 0, .int .u64 0, .int .u64 0, .slice none 0 0, .int .i64 0, .int .i64 0] 30) := ⟨_, rfl⟩
  obtain ⟨R, hR⟩ : ∃ R, R = w.heap.size := ⟨_, rfl⟩
  rw [← hw1, ← hR] at HS
  have HW1 : Hid (w1 = _) := hw1
  have HRR : Hid (R = _) := hR
  clear hw1 hR hal pre hout H
  go_enter Tryz.func62, Tryz.ntmps62
  go_upto_region 1 with fail
  rw [← HW1.out, ← HRR.out]
  clear HW1
  go_wp2_with fail
  have HPA : Hid (pat s (k + 1) d i = match alt s k d i with
    | .ok t j => patLoop s k d [t] j
    | .bad a e => .bad a e
    | .out => .out) := by show _ = _; rw [pat]; rfl
  have hpo : alt s k d i ≠ .out := fun e => HO.out (by rw [HPA.out, e])
  refine (HP.out k (by omega) B i d s w1 (pre_of HS.out hi hs hd) hpo).mono ?_
  intro e w2 h2
  clear hpo
  cases hc : alt s k d i with
  | out => rw [hc] at h2; exact h2.elim
  | bad a c =>
    rw [hc] at h2 HPA
    obtain ⟨rfl, hg2⟩ := h2
    have HG2 : Hid (w.grownBy w2 (some B)) := grown_trans HS.out.grown hg2
    clear hc hg2
    go_wp2
    refine ⟨rfl, ?_⟩
    unfold Reads
    rw [HPA.out]
    exact ⟨rfl, HG2.out⟩
  | ok t j0 =>
    rw [hc] at h2 HPA
    obtain ⟨hj0, v, rfl, ⟨x, rfl, hx⟩, hr2, hg2⟩ := h2
    have hp2 := HS.out.read hg2 hr2
    have hz1 := HS.out.size
    have hz2 := hp2.size
    have hal2 : Below w2.heap.size w2 (w2.alloc (.cells #[.int .i64 x.k, .int .u64 (Oct.word x.s 0 : Nat), .int .u64 (Oct.word x.s 1 : Nat), .int .u64 (Oct.word x.s 2 : Nat), .int .u64 (Oct.word x.s 3 : Nat), .slice x.a x.n x.c, .int .i64 x.mn, .int .i64 x.mx] 30)) := (Below.refl _ _).alloc (Nat.le_refl _) _
    have hp3 := hp2.later hal2
    have HS3 : Hid (Pt w s B R d (w2.alloc (.cells #[.int .i64 x.k, .int .u64 (Oct.word x.s 0 : Nat), .int .u64 (Oct.word x.s 1 : Nat), .int .u64 (Oct.word x.s 2 : Nat), .int .u64 (Oct.word x.s 3 : Nat), .slice x.a x.n x.c, .int .i64 x.mn, .int .i64 x.mx] 30)) j0 (.slice (some ⟨w2.heap.size, 0, none⟩) 1 1) [t]) :=
      ⟨hp3.res, hp3.rd, hp3.gm, hp3.grown, nodes_one (hx.keep (fun b hb _ => by omega) (fun _ _ _ => rfl)) hz2, hp3.hR, hp3.hB, hp3.hB0⟩
    obtain ⟨w3, hw3⟩ : ∃ w3, w3 = w2.alloc (.cells #[.int .i64 x.k, .int .u64 (Oct.word x.s 0 : Nat), .int .u64 (Oct.word x.s 1 : Nat), .int .u64 (Oct.word x.s 2 : Nat), .int .u64 (Oct.word x.s 3 : Nat), .slice x.a x.n x.c, .int .i64 x.mn, .int .i64 x.mx] 30) := ⟨_, rfl⟩
    obtain ⟨G, hG⟩ : ∃ G, G = w2.heap.size := ⟨_, rfl⟩
    rw [← hw3, ← hG] at HS3
    have HW3 : Hid (w3 = _) := hw3
    have HGG : Hid (G = _) := hG
    clear hc hr2 hg2 hx hp2 hp3 hz1 hz2 hal2 hw3 hG HS
    unfold Nd.val
    go_wp2_with fail
    rw [← HW3.out, ← HGG.out]
    clear HW3 HGG
    go_loopw [3] (fun V u => ∃ (m : Nat) (ts : List Tr) (j : Nat), m < k + 1 ∧ j ≤ s.size ∧ ts.length ≤ j + 1 ∧ Hid (Pt w s B R d u j V ts) ∧ Hid (pat s (k + 1) d i = patLoop s m d ts j)) (fun _ u => 4000 - (intOf ((u.cell? ⟨B, 1, none⟩).getD undef)).toNat)
    case atStart => exact ⟨k, [t], j0, by omega, hj0, by simp, HS3, HPA⟩
    case round =>
      clear HS3 HPA
      obtain ⟨m, ts, j, hm, hj, htl, hpt, hal⟩ := hrel
      have HM : Hid (4000 - (intOf ((wr.cell? ⟨B, 1, none⟩).getD undef)).toNat = 4000 - j) := by show _ = _; rw [hpt.out.rd.cells.2.1]; simp [intOf]
      obtain ⟨m, rfl⟩ : ∃ m', m = m' + 1 := by
        cases m with
        | zero => exact absurd (hal.out.trans (by simp [patLoop])) HO.out
        | succ m => exact ⟨m, rfl⟩
      go_wp2_with fail
      refine (sees_any B j d 124 s wr hpt.out.rd hj).mono ?_
      rintro e u1 ⟨rfl, kk⟩
      have HS1 : Hid (Pt w s B R d u1 j _ ts) := hpt.out.later kk
      clear kk
      cases h124 : sees s j 124 with
      | false =>
        have HX : Hid (pat s (k + 1) d i = .ok (together 4 ts) j) := by show _ = _; rw [hal.out, patLoop, h124]; rfl
        clear h124
        go_wp2_with fail
        refine (together_any 4 (w.heap.size + 1) _ ts u1 HS1.out.nodes (by omega)).mono ?_
        rintro e u7 ⟨⟨v, rfl, x, rfl, hx⟩, kk⟩
        have HS7 : Hid (Pt w s B R d u7 j _ ts) := HS1.out.later kk
        have HX7 : Hid (NodeAt (fun b => w.heap.size + 1 ≤ b) u7 (together 4 ts) x) := hx
        clear kk hx HS1
        obtain ⟨z0, z1, z2, z3, z4, z5, z6, z7⟩ := HS7.out.res.cells
        have y0 := HS7.out.res.frozen 0
        have y1 := HS7.out.res.frozen 1
        have y2 := HS7.out.res.frozen 2
        have y3 := HS7.out.res.frozen 3
        have y4 := HS7.out.res.frozen 4
        have y5 := HS7.out.res.frozen 5
        have y6 := HS7.out.res.frozen 6
        have y7 := HS7.out.res.frozen 7
        unfold Nd.val
        go_wp2
        refine post_node Tryz.f62 2 rfl rfl rfl (HS7.out.res.put8 x) ?_
        unfold Reads
        rw [HX.out]
        have hRb := HS7.out.hR
        have hBb := HS7.out.hB
        exact ⟨hj, _, rfl, ⟨_, rfl, HX7.out.keep (fun b hb _ => by omega) (fun b hb _ => heap_put8 _ R _ b (by omega))⟩, put8_rb HS7.out.rd (by omega) _, put8_grown HS7.out.grown (by omega) _⟩
      | true =>
        have hlt : j < s.size := by unfold sees at h124; simp at h124; exact h124.1
        have HGO : Hid (pat s (k + 1) d i = match alt s m d (j + 1) with
          | .ok t j' => patLoop s m d (ts ++ [t]) j'
          | .bad a e => .bad a e
          | .out => .out) := by
          show _ = _
          rw [hal.out, patLoop, h124]
          rfl
        clear h124
        obtain ⟨c0, c1, c2⟩ := HS1.out.rd.cells
        have f1 := HS1.out.rd.frozen 1
        have hj3 : j ≤ 1024 := by omega
        have HS2 : Hid (Pt w s B R d (u1.setCell ⟨B, 1, none⟩ (.int .i64 ((j : Int) + 1))) (j + 1) _ ts) := HS1.out.read (grown_set _ _ _ _) (HS1.out.rd.at (j + 1))
        go_upto_region 4 with fail
        obtain ⟨u2, hu2⟩ : ∃ u2, u2 = u1.setCell ⟨B, 1, none⟩ (.int .i64 ((j : Int) + 1)) := ⟨_, rfl⟩
        rw [← hu2] at HS2 ⊢
        clear hu2 c0 c1 c2 f1 HS1
        go_wp2_with fail
        have hpo : alt s m d (j + 1) ≠ .out := fun e => HO.out (by rw [HGO.out, e])
        refine (HP.out m (by omega) B (j + 1) d s u2 (pre_of HS2.out (by omega) hs hd) hpo).mono ?_
        intro e u4 h4
        clear hpo
        cases hc : alt s m d (j + 1) with
        | out => rw [hc] at h4; exact h4.elim
        | bad a c =>
          rw [hc] at h4 HGO
          obtain ⟨rfl, hg4⟩ := h4
          have HG4 : Hid (w.grownBy u4 (some B)) := grown_trans HS2.out.grown hg4
          clear hc hg4
          go_wp2
          refine ⟨rfl, ?_⟩
          unfold Reads
          rw [HGO.out]
          exact ⟨rfl, HG4.out⟩
        | ok t j' =>
          have hjj := (read_ge s m).2.2.1 _ _ _ _ hc
          rw [hc] at h4 HGO
          obtain ⟨hj', v, rfl, ⟨x, rfl, hx⟩, hr4, hg4⟩ := h4
          have HS4 : Hid (Pt w s B R d u4 j' _ ts) := HS2.out.read hg4 hr4
          have hu3 := HS2.out.size
          have hvb : ∀ b, Value.ownBlock _ = some b → b < u2.heap.size := Nodes.blt HS2.out.nodes
          have hx5 := hx.keep (Y := fun b => w.heap.size + 1 ≤ b ∧ Value.ownBlock _ ≠ some b) (w' := u4.alloc (.cells #[.int .i64 x.k, .int .u64 (Oct.word x.s 0 : Nat), .int .u64 (Oct.word x.s 1 : Nat), .int .u64 (Oct.word x.s 2 : Nat), .int .u64 (Oct.word x.s 3 : Nat), .slice x.a x.n x.c, .int .i64 x.mn, .int .i64 x.mx] 30)) (fun b hb _ => ⟨by omega, fun e => by have := hvb b e; omega⟩) (fun b _ hlt => ((Below.refl _ u4).alloc (Nat.le_refl _) _).block b hlt)
          have hS5 := HS4.out.later ((Below.refl _ u4).alloc (Nat.le_refl _) (.cells #[.int .i64 x.k, .int .u64 (Oct.word x.s 0 : Nat), .int .u64 (Oct.word x.s 1 : Nat), .int .u64 (Oct.word x.s 2 : Nat), .int .u64 (Oct.word x.s 3 : Nat), .slice x.a x.n x.c, .int .i64 x.mn, .int .i64 x.mx] 30))
          have HX5 : Hid (NodeAt _ _ t x) := hx5
          have HS5 : Hid (Pt w s B R d _ j' _ ts) := hS5
          have HC5 : Hid (∀ j v, x.cells[j]? = some v → _) := cells_new u4 x
          have HL5 : Hid (ts.length ≤ 100000) := by show _ ≤ _; omega
          have HZ5 : Hid (w.heap.size + 1 ≤ _) := hS5.size
          clear hc hr4 hg4 hx hx5 hS5 hu3 hvb HS2 HS4
          unfold Nd.val
          go_wp2_with (at_builtin; go_must (refine wpList_append_node rfl _ _ rfl (w.heap.size + 1) _ ts rfl HS5.out.nodes ⟨u4.heap.size, 0, none⟩ 1 x t rfl HX5.out HC5.out HL5.out HZ5.out ?_; intro g cap' w6 hn6 hg6 hb6; have HS6 : Hid (Pt w s B R d w6 j' _ (ts ++ [t])) := (HS5.out.more hn6 hg6 hb6); clear hn6 hg6 hb6))
          go_roundw
          case rel => exact ⟨m, ts ++ [t], j', by omega, hj', by simp; omega, HS6, HGO⟩
          case measure =>
            rw [HM.out, HS6.out.rd.cells.2.1]
            simp [intOf]
            omega
end Go.Proofs.YtmjnobdlgbojoaaGreatDoor


namespace Go.Proofs.YtmjnobdlgbojoaaGreatDoor
open Go.RowKit
attribute [local go_sem ↓] Go.wp_at_zero Go.wp_at_succ
set_option maxRecDepth 4000 in
set_option maxHeartbeats 4000000 in
theorem group_walk (n : Nat) (H : ∀ m, m < n → PatOK m) : GroupOK n := by
  intro B i d s w pre hlt hout
  obtain ⟨k, rfl⟩ : ∃ k, n = k + 1 := by
    cases n with
    | zero => exact absurd (by simp [group]) hout
    | succ k => exact ⟨k, rfl⟩
  have HO : Hid (group s (k + 1) d i ≠ .out) := hout
  have HP : Hid (∀ m, m < k + 1 → PatOK m) := H
  have hi := pre.hi
  have hs := pre.hs
  have hd := pre.hd
  have hal : Below w.heap.size w (w.alloc (.cells #[.int .i64 0, .int .u64 0, .int .u64 0, .int .u64 0, .int .u64 0, .slice none 0 0, .int .i64 0, .int .i64 0] 30)) := (Below.refl _ _).alloc (Nat.le_refl _) _
  have HS : Hid (Pt w s B w.heap.size d (w.alloc (.cells #[.int .i64 0, .int .u64 0, .int .u64 0, .int .u64 0, .int .u64 0, .slice none 0 0, .int .i64 0, .int .i64 0] 30)) i (.slice none 0 0) []) :=
    ⟨nb_zero w, pre.rd.later hal, pre.gm.later hal, grown_below (grown_refl _ _) hal, nodes_nil _ _, rfl, pre.rd.lt, pre.hB0⟩
  obtain ⟨w1, hw1⟩ : ∃ w1, w1 = w.alloc (.cells #[.int .i64 0, .int .u64 0, .int .u64 0, .int .u64 0, .int .u64 0, .slice none 0 0, .int .i64 0, .int .i64 0] 30) := ⟨_, rfl⟩
  obtain ⟨R, hR⟩ : ∃ R, R = w.heap.size := ⟨_, rfl⟩
  rw [← hw1, ← hR] at HS
  have HW1 : Hid (w1 = _) := hw1
  have HRR : Hid (R = _) := hR
  clear hw1 hR hal pre hout H
  obtain ⟨c0, c1, c2⟩ := HS.out.rd.cells
  have f1 := HS.out.rd.frozen 1
  have f2 := HS.out.rd.frozen 2
  have hi3 : i ≤ 1024 := by omega
  go_enter Tryz.func88, Tryz.ntmps88
  go_upto_region 1 with fail
  rw [← HW1.out, ← HRR.out]
  clear HW1
  by_cases hd64 : d = 64
  · have HX : Hid (group s (k + 1) d i = .bad i 47) := by show _ = _; rw [group, if_pos hd64]
    have g1 : (d : Int) = 64 := by omega
    clear hd64
    go_wp2_with fail
    refine (giveUp_any i 47 _).mono ?_
    rintro e u1 ⟨rfl, k1⟩
    go_wp2
    refine ⟨rfl, ?_⟩
    unfold Reads
    rw [HX.out]
    exact ⟨rfl, grown_below HS.out.grown k1⟩
  · have g1 : ¬ (d : Int) = 64 := by omega
    have HGO : Hid (group s (k + 1) d i = match pat s k (d + 1) (i + 1) with
      | .ok t j => if j = s.size then .bad i 42 else .ok t (j + 1)
      | .bad a e => .bad a e
      | .out => .out) := by show _ = _; rw [group, if_neg hd64]; rfl
    have hd3 : d + 1 ≤ 64 := by omega
    clear hd64
    have HR2 : Hid (RB ((w1.setCell ⟨B, 1, none⟩ (.int .i64 ((i : Int) + 1))).setCell ⟨B, 2, none⟩ (.int .i64 ((d : Int) + 1))) B s (i + 1) (d + 1)) := (HS.out.rd.at (i + 1)).deep (d + 1)
    have HG2 : Hid (w1.grownBy ((w1.setCell ⟨B, 1, none⟩ (.int .i64 ((i : Int) + 1))).setCell ⟨B, 2, none⟩ (.int .i64 ((d : Int) + 1))) (some B)) := grown_trans (grown_set _ _ _ _) (grown_set _ _ _ _)
    go_upto_region 6 with fail
    obtain ⟨w2, hw2⟩ : ∃ w2, w2 = (w1.setCell ⟨B, 1, none⟩ (.int .i64 ((i : Int) + 1))).setCell ⟨B, 2, none⟩ (.int .i64 ((d : Int) + 1)) := ⟨_, rfl⟩
    rw [← hw2] at HR2 HG2 ⊢
    clear hw2 c0 c1 c2 f1 f2
    have HRB : Hid (R ≠ B) := by have := HS.out.hR; have := HS.out.hB; show _ ≠ _; omega
    have HN2 : Hid (NB w2 R zeroNd) := HS.out.res.grown HG2.out (by have := HRB.out; simp; exact this)
    have HM2 : Hid (GM w2) := HS.out.gm.grown HG2.out HS.out.hB0
    have HGW2 : Hid (w.grownBy w2 (some B)) := grown_trans HS.out.grown HG2.out
    go_wp2_with fail
    have hpo : pat s k (d + 1) (i + 1) ≠ .out := fun e => HO.out (by rw [HGO.out, e])
    refine (HP.out k (by omega) B (i + 1) (d + 1) s w2 ⟨HR2.out, by omega, hs, HM2.out, HS.out.hB0, hd3⟩ hpo).mono ?_
    intro e w3 h3
    clear hpo
    cases hc : pat s k (d + 1) (i + 1) with
    | out => rw [hc] at h3; exact h3.elim
    | bad a c =>
      rw [hc] at h3 HGO
      obtain ⟨rfl, hg3⟩ := h3
      have HG3 : Hid (w.grownBy w3 (some B)) := grown_trans HGW2.out hg3
      clear hc hg3
      go_wp2
      refine ⟨rfl, ?_⟩
      unfold Reads
      rw [HGO.out]
      exact ⟨rfl, HG3.out⟩
    | ok t j =>
      rw [hc] at h3 HGO
      obtain ⟨hj, v, rfl, ⟨x, rfl, hx⟩, hr3, hg3⟩ := h3
      have hn3 : NB w3 R zeroNd := HN2.out.grown hg3 (by have := HRB.out; simp; exact this)
      have hgw3 : w.grownBy w3 (some B) := grown_trans HGW2.out hg3
      have hz2 : w.heap.size + 1 ≤ w2.heap.size := by have := HN2.out.lt; have := HS.out.hR; omega
      have hal4 : Below w3.heap.size w3 (w3.alloc (.cells #[.int .i64 x.k, .int .u64 (Oct.word x.s 0 : Nat), .int .u64 (Oct.word x.s 1 : Nat), .int .u64 (Oct.word x.s 2 : Nat), .int .u64 (Oct.word x.s 3 : Nat), .slice x.a x.n x.c, .int .i64 x.mn, .int .i64 x.mx] 30)) := (Below.refl _ _).alloc (Nat.le_refl _) _
      have HX4 : Hid (NodeAt (fun b => w.heap.size + 1 ≤ b ∧ b < w3.heap.size) (w3.alloc (.cells #[.int .i64 x.k, .int .u64 (Oct.word x.s 0 : Nat), .int .u64 (Oct.word x.s 1 : Nat), .int .u64 (Oct.word x.s 2 : Nat), .int .u64 (Oct.word x.s 3 : Nat), .slice x.a x.n x.c, .int .i64 x.mn, .int .i64 x.mx] 30)) t x) := hx.keep (fun b hb hlt => ⟨by omega, hlt⟩) (fun b _ hlt => hal4.block b hlt)
      have HN4 : Hid (NB (w3.alloc (.cells #[.int .i64 x.k, .int .u64 (Oct.word x.s 0 : Nat), .int .u64 (Oct.word x.s 1 : Nat), .int .u64 (Oct.word x.s 2 : Nat), .int .u64 (Oct.word x.s 3 : Nat), .slice x.a x.n x.c, .int .i64 x.mn, .int .i64 x.mx] 30)) R zeroNd) := hn3.later hal4
      have HR4 : Hid (RB (w3.alloc (.cells #[.int .i64 x.k, .int .u64 (Oct.word x.s 0 : Nat), .int .u64 (Oct.word x.s 1 : Nat), .int .u64 (Oct.word x.s 2 : Nat), .int .u64 (Oct.word x.s 3 : Nat), .slice x.a x.n x.c, .int .i64 x.mn, .int .i64 x.mx] 30)) B s j (d + 1)) := hr3.later hal4
      have HG4 : Hid (w.grownBy (w3.alloc (.cells #[.int .i64 x.k, .int .u64 (Oct.word x.s 0 : Nat), .int .u64 (Oct.word x.s 1 : Nat), .int .u64 (Oct.word x.s 2 : Nat), .int .u64 (Oct.word x.s 3 : Nat), .slice x.a x.n x.c, .int .i64 x.mn, .int .i64 x.mx] 30)) (some B)) := grown_below hgw3 hal4
      have HY4 : Hid (NB (w3.alloc (.cells #[.int .i64 x.k, .int .u64 (Oct.word x.s 0 : Nat), .int .u64 (Oct.word x.s 1 : Nat), .int .u64 (Oct.word x.s 2 : Nat), .int .u64 (Oct.word x.s 3 : Nat), .slice x.a x.n x.c, .int .i64 x.mn, .int .i64 x.mx] 30)) w3.heap.size x) := nb_new w3 x
      obtain ⟨Y, hY⟩ : ∃ Y, Y = w3.heap.size := ⟨_, rfl⟩
      obtain ⟨w4, hw4⟩ : ∃ w4, w4 = w3.alloc (.cells #[.int .i64 x.k, .int .u64 (Oct.word x.s 0 : Nat), .int .u64 (Oct.word x.s 1 : Nat), .int .u64 (Oct.word x.s 2 : Nat), .int .u64 (Oct.word x.s 3 : Nat), .slice x.a x.n x.c, .int .i64 x.mn, .int .i64 x.mx] 30) := ⟨_, rfl⟩
      have HYB : Hid (Y ≠ B ∧ Y ≠ R) := ⟨by have := hr3.lt; omega, by have := hn3.lt; omega⟩
      rw [← hw4, ← hY] at HX4 HY4
      rw [← hw4] at HN4 HR4 HG4
      have HW4 : Hid (w4 = _) := hw4
      have HYY : Hid (Y = _) := hY
      clear hc hr3 hg3 hx hn3 hgw3 hz2 hal4 hw4 hY HN2 HM2 HGW2 HR2 HG2
      unfold Nd.val
      go_upto_region 7 with fail
      rw [← HW4.out, ← HYY.out]
      clear HW4 HYY
      go_wp2_with fail
      refine (ended_any B j (d + 1) s w4 HR4.out).mono ?_
      rintro e w5 ⟨rfl, k5⟩
      have HX5 := HX4.out.later k5
      have HN5 : Hid (NB w5 R zeroNd) := HN4.out.later k5
      have HR5 : Hid (RB w5 B s j (d + 1)) := HR4.out.later k5
      have HG5 : Hid (w.grownBy w5 (some B)) := grown_below HG4.out k5
      have HY5 : Hid (NB w5 Y x) := HY4.out.later k5
      have HXX : Hid (NodeAt (fun b => w.heap.size + 1 ≤ b ∧ b < Y) w5 t x) := HX5
      clear k5 HX5 HX4 HN4 HR4 HG4 HY4
      by_cases hend : j = s.size
      · have HX : Hid (group s (k + 1) d i = .bad i 42) := by show _ = _; rw [HGO.out]; simp [hend]
        rw [decide_eq_true hend]
        clear hend
        go_wp2_with fail
        refine (giveUp_any i 42 _).mono ?_
        rintro e u1 ⟨rfl, k1⟩
        go_wp2
        refine ⟨rfl, ?_⟩
        unfold Reads
        rw [HX.out]
        exact ⟨rfl, grown_below HG5.out k1⟩
      · have HX : Hid (group s (k + 1) d i = .ok t (j + 1)) := by show _ = _; rw [HGO.out]; simp [hend]
        rw [decide_eq_false hend]
        have hj3 : j ≤ 1024 := by omega
        have hjl : j + 1 ≤ s.size := by omega
        clear hend
        obtain ⟨c0, c1, c2⟩ := HR5.out.cells
        have f1 := HR5.out.frozen 1
        have f2 := HR5.out.frozen 2
        have e1 : ((d + 1 : Nat) : Int) = (d : Int) + 1 := by omega
        rw [e1] at c2
        have HR6 : Hid (RB ((w5.setCell ⟨B, 1, none⟩ (.int .i64 ((j : Int) + 1))).setCell ⟨B, 2, none⟩ (.int .i64 (d : Int))) B s (j + 1) d) := (HR5.out.at (j + 1)).deep d
        have HG6 : Hid (w5.grownBy ((w5.setCell ⟨B, 1, none⟩ (.int .i64 ((j : Int) + 1))).setCell ⟨B, 2, none⟩ (.int .i64 (d : Int))) (some B)) := grown_trans (grown_set _ _ _ _) (grown_set _ _ _ _)
        clear e1
        go_upto_region 11 with fail
        have es : ((d : Int) + 1 - 1) = (d : Int) := by omega
        try rw [es]
        obtain ⟨w6, hw6⟩ : ∃ w6, w6 = (w5.setCell ⟨B, 1, none⟩ (.int .i64 ((j : Int) + 1))).setCell ⟨B, 2, none⟩ (.int .i64 (d : Int)) := ⟨_, rfl⟩
        rw [← hw6] at HR6 HG6 ⊢
        clear hw6 c0 c1 c2 f1 f2 es
        have hYB := HYB.out
        have hRB := HRB.out
        have hBw := HS.out.hB
        have hRw := HS.out.hR
        have HN6 : Hid (NB w6 R zeroNd) := HN5.out.grown HG6.out (by simp; exact hRB)
        have HY6 : Hid (NB w6 Y x) := HY5.out.grown HG6.out (by simp; exact hYB.1)
        have HX6 : Hid (NodeAt (fun b => w.heap.size + 1 ≤ b) w6 t x) := HXX.out.keep (fun b hb _ => hb.1) (fun b hb hlt => HG6.out.block b hlt (by simp; omega))
        have HGW6 : Hid (w.grownBy w6 (some B)) := grown_trans HG5.out HG6.out
        clear hYB hRB hBw hRw HN5 HY5 HXX HG5 HG6
        obtain ⟨b0, b1, b2, b3, b4, b5, b6, b7⟩ := HY6.out.cells
        obtain ⟨z0, z1, z2, z3, z4, z5, z6, z7⟩ := HN6.out.cells
        have y0 := HN6.out.frozen 0
        have y1 := HN6.out.frozen 1
        have y2 := HN6.out.frozen 2
        have y3 := HN6.out.frozen 3
        have y4 := HN6.out.frozen 4
        have y5 := HN6.out.frozen 5
        have y6 := HN6.out.frozen 6
        have y7 := HN6.out.frozen 7
        go_wp2
        refine post_node Tryz.f88 2 rfl rfl rfl (HN6.out.put8 x) ?_
        unfold Reads
        rw [HX.out]
        have hRb := HS.out.hR
        have hBb := HS.out.hB
        exact ⟨hjl, _, rfl, ⟨_, rfl, HX6.out.keep (fun b hb _ => by omega) (fun b hb _ => heap_put8 _ R _ b (by omega))⟩, put8_rb HR6.out HRB.out _, put8_grown HGW6.out (by omega) _⟩
end Go.Proofs.YtmjnobdlgbojoaaGreatDoor
