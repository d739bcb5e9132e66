/- The contracts of the document's answer's reader: Take, and Read. -/
import Derived.Test.YtfncocffnfebbaaRefReader
import Derived.Deep.AppendLies
namespace Go.Proofs.Ytfncocffnfebbaa
open Go.RowKit
attribute [local go_sem ↓] Go.wp_at_zero Go.wp_at_succ

theorem xtake_inval (X : Nat) (n : Int) (w : World) (hn : n < 0) : Calls Try.prog 23 #[.pointer (some ⟨X, 0, none⟩), .int .i64 n] w fun e w' => e = .returned (.tuple #[.slice none 0 0, .int .i64 1]) ∧ w' = w := by
  go_enter Try.func23, Try.ntmps23
  go_wp2
  go_ret2
  exact ⟨rfl, rfl⟩
theorem xtake_short (X : Nat) (xa : Option Addr) (xc p : Nat) (n : Int) (zb : List Int) (w : World) (h : Rx w X xa xc p zb) (hl : zb.length ≤ 16777216) (hs : ((zb.length - p : Nat) : Int) < n) :
    Calls Try.prog 23 #[.pointer (some ⟨X, 0, none⟩), .int .i64 n] w fun e w' => e = .returned (.tuple #[.slice none 0 0, .int .i64 20]) ∧ Below w.heap.size w w' := by
  have H : Hid (Rx w X xa xc p zb) := h
  have HL : Hid (zb.length ≤ 16777216) := hl
  obtain ⟨D, hD⟩ : ∃ D, D = zb.length - p := ⟨_, rfl⟩
  have HD : Hid (D = zb.length - p) := hD
  rw [← hD] at hs
  have h0 : 0 ≤ n := by omega
  clear h hl hD
  go_enter Try.func23, Try.ntmps23
  go_wp2_with fail
  refine (xleft_any X xa xc p zb _ H.out HL.out).mono ?_
  rintro e w1 ⟨rfl, hb1⟩
  rw [← HD.out]
  have HB1 : Hid (Below w.heap.size w w1) := hb1
  clear hb1
  go_wp2
  go_ret2
  exact ⟨rfl, HB1.out⟩

theorem run_append_nil0 (w : World) (ty : TypeId) (a : Option Addr) (cap : Nat) : (Builtin.append_ #[26, 26] ty #[.slice none 0 0, .slice a 0 cap]).run Try.prog w = .ok (.slice none 0 0) w := by
  obtain ⟨i0, hi, hz0, hz1, hz2⟩ := info_parts info5
  cases a with
  | none => simp [Builtin.append_, run_underlying Try.underlying26, sizeOf, typeInfo, hi, Builtin.lenOf, Builtin.firstCells]
  | some ad => simp [Builtin.append_, run_underlying Try.underlying26, sizeOf, typeInfo, hi, Builtin.lenOf, Builtin.firstCells, loadCells, loadCellsFrom]
theorem step_append_nil0 {w : World} {ops : Array Oper} {o : Oper} {a : Act} {K : Act → World → Prop} {Q : Exit → Act → World → Prop} {E : Prop} (hgd : o.guard = none) (s x : Operand)
    (ho : o.op = .call { callee := .builtin .append, args := #[s, x], argTypes := #[26, 26] }) (hs : a.eval s = .slice none 0 0) (p : Option Addr) (cap : Nat) (hx : a.eval x = .slice p 0 cap)
    (h : K (a.put o.dst (.slice none 0 0)) w) : if Region.wanted o (yielded ops a.tmps) = true then Oper.wp Try.prog o a w K Q else E := by
  have hw : Region.wanted o (yielded ops a.tmps) = true := by simp [Region.wanted, hgd]
  rw [if_pos hw]
  unfold Oper.wp execOp
  simp only [ho, resolve, invoke, builtin, Sem.run_bind, Sem.run_pure, Result.andThen_ok, List.map_toArray, List.map_cons, List.map_nil, hs, hx, run_append_nil0]
  exact h

set_option maxHeartbeats 2000000 in
set_option maxRecDepth 8000 in
theorem xtake_none (X : Nat) (xa : Option Addr) (xc p : Nat) (zb : List Int) (w : World) (h : Rx w X xa xc p zb) (hl : zb.length ≤ 16777216) :
    Calls Try.prog 23 #[.pointer (some ⟨X, 0, none⟩), .int .i64 0] w fun e w' => e = .returned (.tuple #[.slice none 0 0, .int .i64 0]) ∧ Rx w' X xa xc p zb ∧ w.grownBy w' (some X) := by
  have H : Hid (Rx w X xa xc p zb) := h
  have HL : Hid (zb.length ≤ 16777216) := hl
  obtain ⟨L, hL⟩ : ∃ L, L = zb.length := ⟨_, rfl⟩
  have hxc := h.2.2.2.1
  have hpl := h.2.2.2.2.1
  have HPL : Hid (p ≤ zb.length) := hpl
  have hxm := h.2.2.2.2.2
  unfold maxLen at hxm
  rw [← hL] at hxc hpl hl
  have HLL : Hid (L = zb.length) := hL
  obtain ⟨D, hD⟩ : ∃ D, D = zb.length - p := ⟨_, rfl⟩
  have HD : Hid (D = zb.length - p) := hD
  have hpi : (0 : Int) ≤ (p : Int) := by omega
  have hpx : (p : Int) ≤ (xc : Int) := by omega
  clear h hL hD
  go_enter Try.func23, Try.ntmps23
  go_wp2_with fail
  refine (xleft_any X xa xc p zb _ H.out HL.out).mono ?_
  rintro e w1 ⟨rfl, hb1⟩
  rw [← HD.out]
  have H1 : Hid (Rx w1 X xa xc p zb) := H.out.grow hb1
  have HB1 : Hid (Below w.heap.size w w1) := hb1
  clear hb1
  obtain ⟨c0, c1, cf⟩ := H1.out.cells
  rw [← HLL.out] at c0
  have hww : IntKind.i64.wrap ((p : Int) + 0) = (p : Int) := by rw [IntKind.wrap_i64]; omega
  have hwp : IntKind.i64.wrap (p : Int) = (p : Int) := by rw [IntKind.wrap_i64]; omega
  have hpp : p - p = 0 := Nat.sub_self p
  by_cases hxe : xc = p
  · subst hxe
    go_wp2
    go_region_held3 (fun w' => w'.cell? ⟨X, 0, none⟩ = some (.slice xa L xc) ∧ w'.cell? ⟨X, 1, none⟩ = some (.int .i64 xc) ∧ w'.frozen? ⟨X, 1, none⟩ = false) (go_keep)
      ((refine step_append_nil0 (by rfl) _ _ (by rfl) (by rfl) _ _ (by rfl) ?_))
    all_goals
      go_wp2
      go_ret2
      obtain ⟨k1, k2⟩ := xset H.out HB1.out.drew xc HPL.out _ rfl
      exact ⟨rfl, k1, k2⟩
  · go_wp2
    go_region_held3 (fun w' => w'.cell? ⟨X, 0, none⟩ = some (.slice xa L xc) ∧ w'.cell? ⟨X, 1, none⟩ = some (.int .i64 p) ∧ w'.frozen? ⟨X, 1, none⟩ = false) (go_keep)
      ((refine step_append_nil0 (by rfl) _ _ (by rfl) (by rfl) _ _ (by rfl) ?_))
    all_goals
      go_wp2
      go_ret2
      obtain ⟨k1, k2⟩ := xset H.out HB1.out.drew p HPL.out _ rfl
      exact ⟨rfl, k1, k2⟩

theorem cells_at {w : World} {g p : Nat} {zs : List Int} (h : BytesAt w (some ⟨g, p, none⟩) zs) : ∀ (j : Nat) (u : Value), (cellsOf zs)[j]? = some u → w.cell? ((⟨g, p, none⟩ : Addr).add j) = some u := fun j u hj => by
  have hj' : j < zs.length := by
    have := (List.getElem?_eq_some_iff.1 hj).1
    simpa [cellsOf] using this
  rcases h with h0 | ⟨b, off, e, hc⟩
  · rw [h0] at hj'; simp at hj'
  · cases e
    have h := hc j hj'
    simp [cellsOf, hj'] at hj
    subst hj
    rw [Go.WideShapes.add_plain]
    simpa [hj'] using h

set_option maxHeartbeats 2000000 in
set_option maxRecDepth 8000 in
theorem xtake_ok (X : Nat) (xa : Option Addr) (xc p n : Nat) (zb : List Int) (w : World) (h : Rx w X xa xc p zb) (hl : zb.length ≤ 16777216) (h1 : 1 ≤ n) (hs : p + n ≤ zb.length) :
    Calls Try.prog 23 #[.pointer (some ⟨X, 0, none⟩), .int .i64 n] w fun e w' => ∃ a c, e = .returned (.tuple #[.slice a n c, .int .i64 0]) ∧ BytesAt w' a ((zb.drop p).take n) ∧ Rx w' X xa xc (p + n) zb ∧ w.grownBy w' (some X) ∧ ∃ g cur, a = some ⟨g, 0, none⟩ ∧ w'.heap[g]? = some (.cells cur 5 (0, 0)) := by
  obtain ⟨i0, hi, hz0, hz1, hz2⟩ := info_parts info5
  have H : Hid (Rx w X xa xc p zb) := h
  have HL : Hid (zb.length ≤ 16777216) := hl
  have HS : Hid (p + n ≤ zb.length) := hs
  obtain ⟨g, rfl, hgX⟩ := h.2.2.1 (fun e => by rw [e] at hs; simp at hs; omega)
  obtain ⟨L, hL⟩ : ∃ L, L = zb.length := ⟨_, rfl⟩
  have hxc := h.2.2.2.1
  have hxm := h.2.2.2.2.2
  unfold maxLen at hxm
  rw [← hL] at hl hs hxc
  have HLL : Hid (L = zb.length) := hL
  obtain ⟨D, hD⟩ : ∃ D, D = zb.length - p := ⟨_, rfl⟩
  have HD : Hid (D = zb.length - p) := hD
  have hDn : n ≤ D := by rw [hD]; omega
  have hpi : (0 : Int) ≤ (p : Int) := by omega
  have hpn : (p : Int) ≤ (p : Int) + (n : Int) := by omega
  have hpx : (p : Int) + (n : Int) ≤ (xc : Int) := by omega
  have hpx2 : ¬ xc = p := by omega
  have hww : IntKind.i64.wrap ((p : Int) + (n : Int)) = (p : Int) + (n : Int) := by rw [IntKind.wrap_i64]; omega
  have hpp : p + n - p = n := by omega
  have HTN : Hid (((p : Int) + (n : Int)).toNat - p = n) := by show _ = _; omega
  clear h hL hD
  go_enter Try.func23, Try.ntmps23
  go_wp2_with fail
  refine (xleft_any X _ xc p zb _ H.out HL.out).mono ?_
  rintro e w1 ⟨rfl, hb1⟩
  rw [← HD.out]
  have H1 : Hid (Rx w1 X _ xc p zb) := H.out.grow hb1
  have HB1 : Hid (Below w.heap.size w w1) := hb1
  clear hb1
  have HY : Hid (BytesAt w1.drew (some ⟨g, p, none⟩) ((zb.drop p).take n)) := bytesAt_drew (bytesAt_sub H1.out.2.1 HS.out)
  obtain ⟨c0, c1, cf⟩ := H1.out.cells
  have HX : Hid (X < w1.heap.size) := World.block_lt_of_cell? w1 _ c0
  rw [← HLL.out] at c0
  go_wp2
  go_region_held3 (fun w' => w'.cell? ⟨X, 0, none⟩ = some (.slice (some ⟨g, 0, none⟩) L xc) ∧ w'.cell? ⟨X, 1, none⟩ = some (.int .i64 p) ∧ w'.frozen? ⟨X, 1, none⟩ = false)
    (first
      | (go_keep; done)
      | (refine ⟨?_, ?_, ?_⟩ <;> first | (rw [hgrow.cell_far _ HX.out (fun e => by cases e)]; simp [*]; done) | (rw [hgrow.frozen_far _ HX.out (fun e => by cases e)]; simp [*]; done)))
    ((refine step_append_lies _ (by rfl) _ _ _ (by rfl) w1.heap.size 5 i0 _ 1 1 Try.underlying26 hi hz0 hz1 hz2 rfl (by omega) (.slice none 0 0) 0 [] (by rfl) (World.ownsRow_nil _ _ 5 1)
        ⟨g, p, none⟩ n (xc - p) (cellsOf ((zb.drop p).take n)) (by first | rfl | (show Value.slice _ (((p : Int) + (n : Int)).toNat - p) _ = _; rw [HTN.out])) (by rw [cellsOf_length, sub_length HS.out]; omega) (cells_at HY.out) (cellsOf_one _)
        h1 (by unfold maxLen; omega) (by omega) (by simp) w1.heap.size (by simp) ?_; intro gg cap w2 hown2 hgrow hat hlt))
  all_goals
    go_wp2
    have hbw : Below w.heap.size w w2 := HB1.out.drew.grown hgrow HB1.out.size (fun k hk => by cases hk)
    obtain ⟨k1, k2⟩ := xset H.out hbw (p + n) HS.out _ (show Value.int .i64 ((p : Int) + (n : Int)) = .int .i64 (p + n : Nat) by simp)
    have hggX : gg ≠ X := by
      rcases hat with e | e
      · cases e
      · have := HX.out; omega
    have hown3 : Owns w2 w1.heap.size (.slice (some ⟨gg, 0, none⟩) ((zb.drop p).take n).length cap) ((zb.drop p).take n) := by
      rw [Nat.zero_add, List.nil_append] at hown2
      refine ⟨?_, by simp⟩
      rw [sub_length HS.out]
      exact hown2
    have hby := hown3.bytes.1
    obtain ⟨cu, hcu⟩ := owns_block hown3
    have hg2 : w2.grownBy (w2.setCell ⟨X, 1, none⟩ (Value.int .i64 ((p : Int) + (n : Int)))) (some X) := grown_setCell w2 X 1 0 _
    go_ret2
    exact ⟨some ⟨gg, 0, none⟩, cap, rfl, bytesAt_grown hg2 hggX hby, k1, k2, gg, cu, rfl, by rw [hg2.block gg hlt (fun e => hggX (by simpa using e))]; exact hcu⟩

/-- Read -/
theorem xread_mid {w w6 : World} {v6 : Value} {zs : List Int} (ho : OwnsN w6 (w.alloc (.cells #[.slice none 0 0, .int .i64 0] 70)).heap.size v6 ([] ++ zs)) (hb : Below (w.alloc (.cells #[.slice none 0 0, .int .i64 0] 70)).heap.size (w.alloc (.cells #[.slice none 0 0, .int .i64 0] 70)) w6) :
    ∃ xa xc, v6 = .slice xa zs.length xc ∧ w6.cell? ⟨w.heap.size, 0, none⟩ = some (.slice none 0 0) ∧ w6.frozen? ⟨w.heap.size, 0, none⟩ = false ∧
      Hid (Rx (w6.setCell ⟨w.heap.size, 0, none⟩ (.slice xa zs.length xc)) w.heap.size xa xc 0 zs ∧ Below w.heap.size w (w6.setCell ⟨w.heap.size, 0, none⟩ (.slice xa zs.length xc)) ∧ (∀ g, xa = some ⟨g, 0, none⟩ → w.heap.size + 1 ≤ g ∧ ∃ cur, (w6.setCell ⟨w.heap.size, 0, none⟩ (.slice xa zs.length xc)).heap[g]? = some (.cells cur 5 (0, 0)))) := by
  have hz : (w.alloc (.cells #[.slice none 0 0, .int .i64 0] 70)).heap.size = w.heap.size + 1 := by simp
  rw [List.nil_append] at ho
  rw [hz] at ho hb
  have hX : w6.heap[w.heap.size]? = some (.cells #[.slice none 0 0, .int .i64 0] 70 (0, 0)) := by rw [hb.block w.heap.size (by omega)]; exact heap_alloc_new w _
  obtain ⟨c0, _, f0, _⟩ := two_of_block hX
  obtain ⟨xa, xc, rfl, hby, hle, hm, hs, hnil⟩ := ho.form
  have hg : w6.grownBy (w6.setCell ⟨w.heap.size, 0, none⟩ (.slice xa zs.length xc)) (some w.heap.size) := grown_setCell w6 w.heap.size 0 0 _
  have hsz := hb.size
  rw [hz] at hsz
  have hgs : ∀ g, xa = some ⟨g, 0, none⟩ → w.heap.size + 1 ≤ g ∧ g < w6.heap.size ∧ ∃ cur, w6.heap[g]? = some (.cells cur 5 (0, 0)) := fun g e => by
    by_cases hzs : zs = []
    · rw [(hnil hzs).1] at e; cases e
    · obtain ⟨g', c', e', hB, hlt, _⟩ := (ho.owns hzs).form
      cases e
      cases e'
      exact ⟨hB, hlt, owns_block (ho.owns hzs)⟩
  refine ⟨xa, xc, rfl, c0, f0, ⟨?_, ?_, ?_, hle, Nat.zero_le _, hm⟩, ?_, fun g e => ⟨(hgs g e).1, (hgs g e).2.2.choose, by rw [hg.block g (hgs g e).2.1 (fun e' => by have := (hgs g e).1; simp at e'; omega)]; exact (hgs g e).2.2.choose_spec⟩⟩
  · simp only [World.setCell, Array.getElem?_modify, hX]
    rfl
  · by_cases hzs : zs = []
    · exact Or.inl hzs
    · obtain ⟨g, rfl⟩ := hs hzs
      exact bytesAt_grown hg (by have := (hgs g rfl).1; omega) hby
  · intro hzs
    obtain ⟨g, rfl⟩ := hs hzs
    exact ⟨g, rfl, by have := (hgs g rfl).1; omega⟩
  · exact (((Below.refl _ _).alloc (Nat.le_refl _) _).trans (hb.mono (by omega))).grown hg (by omega) (fun k hk => by cases hk; exact Nat.le_refl _)

theorem xread_any (a : Option Addr) (n cap : Nat) (zs : List Int) (w : World) (hn : n = zs.length) (hb : BytesAt w a zs) (hl : n ≤ 16777216) :
    Calls Try.prog 15 #[.slice a n cap] w fun e w' => ∃ xa xc, e = .returned (.pointer (some ⟨w.heap.size, 0, none⟩)) ∧ Rx w' w.heap.size xa xc 0 zs ∧ Below w.heap.size w w' ∧ (∀ g, xa = some ⟨g, 0, none⟩ → w.heap.size + 1 ≤ g ∧ ∃ cur, w'.heap[g]? = some (.cells cur 5 (0, 0))) := by
  have HN : Hid (n = zs.length) := hn
  have HB : Hid (BytesAt w a zs) := hb
  clear hn hb
  go_enter Try.func15, Try.ntmps15
  go_wp2_with (at_builtin; go_must (refine wpList_append_bytesN rfl (.tmp 10) (.tmp 11) rfl (w.alloc (.cells #[.slice none 0 0, .int .i64 0] 70)) _ [] rfl (ownsN_nil _ _) (Below.refl _ _) a cap n zs HN.out rfl (bytesAt_later ((Below.refl _ _).alloc (Nat.le_refl _) _) HB.out) (by simp; have := HN.out; omega) ?_; intro v6 w6 ho6 hb6; obtain ⟨xa, xc, rfl, c0, f0, KK⟩ := xread_mid ho6 hb6; clear ho6 hb6))
  obtain ⟨k1, k2, k3⟩ := KK.out
  exact bodyPost_ret (v := .pointer (some ⟨w.heap.size, 0, none⟩)) (by simp [results, Try.results15, go_sem]) rfl ⟨xa, xc, rfl, k1, k2, k3⟩
end Go.Proofs.Ytfncocffnfebbaa
