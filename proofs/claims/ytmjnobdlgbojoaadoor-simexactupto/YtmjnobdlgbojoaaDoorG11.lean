/- The statements' own letter and fixed. -/
import Derived.Test.YtmjnobdlgbojoaaDoorG10
namespace Go.Proofs.YtmjnobdlgbojoaaDoor
open Go.RowKit
attribute [local go_sem ↓] Go.wp_at_zero Go.wp_at_succ

/-- the machine that looks for the byte 97 -/
def let97 : Oct.S := Oct.ins Oct.none 97
def eg97 : Eg := ⟨2, 0, 1, let97⟩
def M97 : Ma := ⟨2, [eg97], [0, 1]⟩
theorem w97 : Oct.word let97 0 = 0 ∧ Oct.word let97 1 = 8589934592 ∧ Oct.word let97 2 = 0 ∧ Oct.word let97 3 = 0 := by decide +kernel
set_option maxHeartbeats 2000000 in
theorem letter_any (w : World) : Calls Tryd.prog 22 #[.int .u8 97] w fun e w' => ∃ x : Nf, e = .returned x.val ∧ MaAt (fun _ => True) w' M97 x ∧ Below w.heap.size w w' := by
  obtain ⟨q0, q1, q2, q3⟩ := w97
  have HF : Hid (∀ (u : World) (E R : Nat), u.heap[E]? = some (.cells #[.int .i64 2, .int .i64 0, .int .i64 1, .int .u64 0, .int .u64 8589934592, .int .u64 0, .int .u64 0] 34 (0, 0)) → u.heap[R]? = some (.cells #[.int .u32 0, .int .u32 1] 28 (0, 0)) → MaAt (fun _ => True) u M97 ⟨2, some ⟨E, 0, none⟩, 1, 1, some ⟨R, 0, none⟩, 2, 2⟩) := fun u E R hE hR => by
    refine ⟨rfl, rfl, rfl, Or.inr ⟨E, 0, rfl, trivial, fun j v hj => ?_⟩, Or.inr ⟨R, 0, rfl, trivial, fun j v hj => ?_⟩⟩
    · rw [Nat.zero_add, cell_of_row _ _ _ _ _ _ hE]
      have e : flatE M97.es = [.int .i64 2, .int .i64 0, .int .i64 1, .int .u64 0, .int .u64 8589934592, .int .u64 0, .int .u64 0] := by
        simp only [M97, eg97, flatE, List.flatMap_cons, List.flatMap_nil, List.append_nil, Eg.cells, q0, q1, q2, q3]
        rfl
      rw [e] at hj
      rw [← hj]
      simp
    · rw [Nat.zero_add, cell_of_row _ _ _ _ _ _ hR]
      rcases j with _ | _ | j
      · simp [M97] at hj; subst hj; rfl
      · simp [M97] at hj; subst hj; rfl
      · simp [M97] at hj
  clear q0 q1 q2 q3
  go_enter Tryd.func22, Tryd.ntmps22
  go_wp2
  refine bodyPost_ret (v := Nf.val ⟨2, some ⟨w.heap.size + 1 + 1, 0, none⟩, 1, 1, some ⟨w.heap.size + 1 + 1 + 1, 0, none⟩, 2, 2⟩) (by simp [results, Tryd.results22, go_sem, Nf.val]) rfl ⟨_, rfl, HF.out _ _ _ ?_ ?_, ?_⟩
  · refine (Below.heap_alloc _ _ _ (by simp)).trans ?_
    have h := fun o1 o2 => heap_alloc_new ((w.alloc o1).alloc o2) (.cells #[.int .i64 2, .int .i64 0, .int .i64 1, .int .u64 0, .int .u64 8589934592, .int .u64 0, .int .u64 0] 34)
    simp only [World.size_alloc] at h
    exact h _ _
  · have h := fun o1 o2 o3 => heap_alloc_new (((w.alloc o1).alloc o2).alloc o3) (.cells #[.int .u32 0, .int .u32 1] 28)
    simp only [World.size_alloc] at h
    exact h _ _ _
  · exact ((((Below.refl _ w).alloc (Nat.le_refl _) _).alloc (by simp) _).alloc (by simp; omega) _).alloc (by simp; omega) _
/-! ### what it meets -/
theorem isCl97 (b e : Bool) (f : Oct.S) : IsCl M97.es (kmov b e) f f := by
  intro s
  refine ⟨fun h => .base s h, fun h => ?_⟩
  cases h with
  | base s h => exact h
  | step y hy hp _ =>
    simp [M97, eg97] at hy
    subst hy
    simp [kmov] at hp
/-- states 0 and 1 -/
def s01 : Oct.S := fun s => decide (s ≤ 1)
theorem next_a : nextS M97.es 97 zeroS = s01 := by
  funext s
  rw [Bool.eq_iff_iff]
  simp [nextS, M97, eg97, zeroS, s01, let97, Oct.ins, Oct.none]
  omega
theorem next_x {g : Oct.S} : nextS M97.es 120 g = zeroS := by
  funext s
  rw [Bool.eq_iff_iff]
  simp [nextS, M97, eg97, zeroS, let97, Oct.ins, Oct.none]
theorem rul0 : rulesG M97.rs zeroS = 0 := by decide +kernel
theorem rul1 : rulesG M97.rs s01 = 1 := by decide +kernel
theorem mom0 : Mom M97 [] zeroS 0 := by
  have h := Mom.beg (M := M97) zeroS (isCl97 true false zeroS)
  rw [rul0] at h
  exact h
theorem line_xax : LineOf M97 [120, 97, 120] 1 := by
  have h1 : Mom M97 ([] ++ [120]) zeroS (0 ||| rulesG M97.rs zeroS) := .byte [] _ _ 120 zeroS mom0 (by rw [next_x]; exact isCl97 _ _ _)
  have h2 : Mom M97 (([] ++ [120]) ++ [97]) s01 _ := .byte _ _ _ 97 s01 h1 (by rw [next_a]; exact isCl97 _ _ _)
  have h3 : Mom M97 ((([] ++ [120]) ++ [97]) ++ [120]) zeroS _ := .byte _ _ _ 120 zeroS h2 (by rw [next_x]; exact isCl97 _ _ _)
  refine ⟨zeroS, _, h3, zeroS, isCl97 _ _ _, ?_⟩
  rw [rul0, rul1]
  rfl
theorem line_x : LineOf M97 [120] 0 := by
  have h1 : Mom M97 ([] ++ [120]) zeroS (0 ||| rulesG M97.rs zeroS) := .byte [] _ _ 120 zeroS mom0 (by rw [next_x]; exact isCl97 _ _ _)
  refine ⟨zeroS, _, h1, zeroS, isCl97 _ _ _, ?_⟩
  rw [rul0]
  rfl
theorem right97 : rightOf M97 = true := by decide +kernel
theorem right0 : rightOf zeroMa = false := by decide +kernel
theorem els0 : Oct.els zeroS 2 = [0] := by decide +kernel
theorem els1 : Oct.els s01 2 = [0, 1] := by decide +kernel
theorem h32_97 : ∀ z ∈ M97.rs, z < 4294967296 := by decide
theorem line97_any (x : Nf) (s : ByteArray) (v : Nat) (w : World) (hs : s.size ≤ maxLen) (hx : MaAt (fun _ => True) w M97 x) (hT : Tab w) (hv : LineOf M97 (bts s) v) : Calls Tryd.prog 15 #[x.val, .string s] w fun e w' => e = .returned (.tuple #[.int .u32 (v : Nat), .int .i64 0]) ∧ Below w.heap.size w w' := by
  refine (line_any M97 x s w hs hx (by decide) (by decide) h32_97 hT).mono ?_
  rintro e w' ⟨k, v', rfl, h⟩
  rw [right97] at h
  rw [LineOf.uniq h hv, right97]
  exact ⟨rfl, k⟩
theorem begin97_any (x : Nf) (w : World) (hx : MaAt (fun _ => True) w M97 x) (hT : Tab w) : Calls Tryd.prog 8 #[x.val] w fun e w' => ∃ Wb, e = .returned (.tuple #[.pointer (some ⟨Wb, 0, none⟩), .int .i64 0]) ∧ WkAt w.heap.size w' Wb M97 2 zeroS 0 false ∧ Below w.heap.size w w' := by
  refine (begin_any M97 x w hx (by decide) (by decide) h32_97 hT).mono ?_
  rintro e w' ⟨k, ⟨h, _⟩ | ⟨_, Wb, g, r, rfl, hm, hwk⟩⟩
  · rw [right97] at h; cases h
  · obtain ⟨rfl, rfl⟩ := hm.uniq mom0
    exact ⟨Wb, rfl, hwk, k⟩
theorem begin0_any (w : World) (hT : Tab w) : Calls Tryd.prog 8 #[.agg #[.int .i64 0, .slice none 0 0, .slice none 0 0]] w fun e w' => e = .returned (.tuple #[.pointer none, .int .i64 70]) ∧ Below w.heap.size w w' := by
  refine (begin_any zeroMa ⟨0, none, 0, 0, none, 0, 0⟩ w (zero_maAt _ w) (by decide) (by decide) (by intro z hz; cases hz) hT).mono ?_
  rintro e w' ⟨k, ⟨_, h⟩ | ⟨h, _⟩⟩
  · exact ⟨h, k⟩
  · rw [right0] at h; cases h
theorem byte97_any {base : Nat} {g g2 : Oct.S} {r : Nat} {bg : Bool} (Wb b : Nat) (w : World) (hwk : WkAt base w Wb M97 2 g r bg) (hT : Tab w) (h0 : base ≠ 0) (hb : b < 256) (hr : r < 4294967296) (hlt : ∀ s, g s = true → s < 2) (hn : nextS M97.es b g = g2) : Calls Tryd.prog 12 #[.pointer (some ⟨Wb, 0, none⟩), .int .u8 (b : Nat)] w fun e w' => e = .returned (.tuple #[]) ∧ w.grownBy w' (some Wb) ∧ WkAt base w' Wb M97 2 g2 (r ||| rulesG M97.rs g2) true := by
  refine (byte_any Wb b w hwk (fits_of right97 h32_97) hT h0 hb (by decide) (by decide) hr hlt).mono ?_
  rintro e w' ⟨rfl, hg, g3, hc, h⟩
  rw [hn] at hc
  obtain rfl := hc.uniq (isCl97 _ _ _)
  exact ⟨rfl, hg, h⟩
theorem lt0 : ∀ s, zeroS s = true → s < 2 := fun s h => by simp [zeroS] at h; omega
theorem lt01 : ∀ s, s01 s = true → s < 2 := fun s h => by simp [s01] at h; omega
theorem Stk.len {w : World} {base : Nat} {V : Value} {l : List Nat} (h : Stk w base V l) (hl : l ≠ []) : ∃ g c, V = .slice (some ⟨g, 0, none⟩) l.length c ∧ base ≤ g ∧ (∀ (j x : Nat), l[j]? = some x → w.cell? ⟨g, j, none⟩ = some (.int .i64 (x : Nat))) := by
  rcases h.2 with ⟨hv, hn⟩ | ⟨g, cap, cur, hv, hbg, hg, h1, h2, h3, h4⟩
  · exact absurd (List.length_eq_zero_iff.1 hn) hl
  · refine ⟨g, cap, hv, hbg, fun j x hx => ?_⟩
    have hjl := (List.getElem?_eq_some_iff.1 hx).1
    have e : (ints l)[j]? = some (.int .i64 (x : Nat)) := by unfold ints; rw [List.getElem?_map, hx]; rfl
    rw [← h4, List.getElem?_take_of_lt (by omega)] at e
    simp only [World.cell?, hg]
    simpa using e
set_option maxRecDepth 8000 in
set_option maxHeartbeats 8000000 in
theorem fixed_any (w : World) (hT : Tab w) : Calls Tryd.prog 5 #[] w fun e w' => e = .returned (.bool true) ∧ Below w.heap.size w w' := by
  have HT : Hid (Tab w) := hT
  have HF : Hid (Fits M97 2) := fits_of right97 h32_97
  have hpos := hT.pos
  clear hT
  go_enter Tryd.func5, Tryd.ntmps5
  have hbt1 : bts ⟨#[120, 97, 120]⟩ = [120, 97, 120] := by decide +kernel
  have hbt2 : bts ⟨#[120]⟩ = [120] := by decide +kernel
  have HBT : Hid (bts ⟨#[120, 97, 120]⟩ = [120, 97, 120] ∧ bts ⟨#[120]⟩ = [120]) := ⟨hbt1, hbt2⟩
  clear hbt1 hbt2
  go_wp2_with fail
  refine (letter_any w).mono ?_
  rintro e w1 ⟨x1, rfl, hx1, k1⟩
  have HL1 : Hid (Calls Tryd.prog 15 #[x1.val, .string ⟨#[120, 97, 120]⟩] w1 _) := line97_any x1 ⟨#[120, 97, 120]⟩ 1 w1 (by decide) hx1 (HT.out.later k1) (by rw [HBT.out.1]; exact line_xax)
  have HB1 : Hid (Below w.heap.size w w1) := k1
  obtain ⟨xv, hxv⟩ : ∃ xv, xv = x1.val := ⟨_, rfl⟩
  rw [← hxv] at HL1 ⊢
  clear hx1 k1 hxv
  go_wp2_with fail
  refine HL1.out.mono ?_
  rintro e w2 ⟨rfl, k2⟩
  have HB2 : Hid (Below w.heap.size w w2) := below_step HB1.out k2
  clear k2 HL1 HB1
  go_wp2_with fail
  refine (letter_any w2).mono ?_
  rintro e w3 ⟨x3, rfl, hx3, k3⟩
  have HB3 : Hid (Below w.heap.size w w3) := below_step HB2.out k3
  have HL3 : Hid (Calls Tryd.prog 15 #[x3.val, .string ⟨#[120]⟩] w3 _) := line97_any x3 ⟨#[120]⟩ 0 w3 (by decide) hx3 (HT.out.later HB3.out) (by rw [HBT.out.2]; exact line_x)
  obtain ⟨xv3, hxv⟩ : ∃ xv, xv = x3.val := ⟨_, rfl⟩
  rw [← hxv] at HL3 ⊢
  clear hx3 k3 hxv HB2
  go_wp2_with fail
  refine HL3.out.mono ?_
  rintro e w4 ⟨rfl, k4⟩
  have HB4 : Hid (Below w.heap.size w w4) := below_step HB3.out k4
  clear k4 HL3 HB3
  go_wp2_with fail
  refine (letter_any w4).mono ?_
  rintro e w5 ⟨x5, rfl, hx5, k5⟩
  have HB5 : Hid (Below w.heap.size w w5) := below_step HB4.out k5
  have HL5 : Hid (Calls Tryd.prog 8 #[x5.val] w5 _) := begin97_any x5 w5 hx5 (HT.out.later HB5.out)
  obtain ⟨xv5, hxv⟩ : ∃ xv, xv = x5.val := ⟨_, rfl⟩
  rw [← hxv] at HL5 ⊢
  clear hx5 k5 hxv HB4
  go_wp2_with fail
  refine HL5.out.mono ?_
  rintro e w6 ⟨Wb, rfl, hwk6, k6⟩
  have HB6 : Hid (Below w.heap.size w w6) := below_step HB5.out k6
  have hs5 : w.heap.size ≤ w5.heap.size := HB5.out.size
  have hWb : w.heap.size ≤ Wb := by have := hwk6.1; omega
  have h50 : w5.heap.size ≠ 0 := by omega
  have HA : Hid (Calls Tryd.prog 12 #[.pointer (some ⟨Wb, 0, none⟩), .int .u8 97] w6 fun e w' => e = .returned (.tuple #[]) ∧ w6.grownBy w' (some Wb) ∧ WkAt w5.heap.size w' Wb M97 2 s01 (0 ||| rulesG M97.rs s01) true) := byte97_any Wb 97 w6 hwk6 (HT.out.later HB6.out) h50 (by decide) (by decide) lt0 next_a
  clear HL5 hwk6 k6 HB5
  go_wp2_with fail
  refine HA.out.mono ?_
  rintro e w7 ⟨rfl, hg7, hwk7⟩
  rw [rul1] at hwk7
  have HB7 : Hid (Below w.heap.size w w7) := HB6.out.grown hg7 HB6.out.size (fun k e => by cases e; exact hWb)
  have HWK7 : Hid (WkAt w5.heap.size w7 Wb M97 2 s01 1 true) := hwk7
  have HS7 : Hid (Calls Tryd.prog 9 #[.pointer (some ⟨Wb, 0, none⟩)] w7 _) := states_any Wb w7 hwk7 (HT.out.later HB7.out) (by decide) lt01 (by rw [els1]; decide)
  clear hg7 hwk7 HA HB6
  go_wp2_with fail
  refine HS7.out.mono ?_
  rintro e w8 ⟨V8, rfl, hst8, k8⟩
  rw [els1] at hst8
  obtain ⟨g8, c8, rfl, hg8, hc8⟩ := hst8.len (by simp)
  have HB8 : Hid (Below w.heap.size w w8) := below_step HB7.out k8
  have HWK8 : Hid (WkAt w5.heap.size w8 Wb M97 2 s01 1 true) := HWK7.out.later k8
  have HC8 : Hid (w8.cell? ⟨g8, 1, none⟩ = some (.int .i64 1)) := hc8 1 1 rfl
  have HR8 : Hid (Calls Tryd.prog 10 #[.pointer (some ⟨Wb, 0, none⟩)] w8 _) := rules_any Wb w8 HWK8.out
  have HG8 : Hid (g8 < w8.heap.size ∧ g8 ≠ Wb) := ⟨lt_of_cell HC8.out, by
    have h1 : Wb < w7.heap.size := HWK7.out.lt
    omega⟩
  clear hst8 hc8 k8 HS7 HB7 HWK7 hg8
  simp only [List.length_cons, List.length_nil, Nat.zero_add, Nat.reduceAdd]
  go_wp2_with fail
  refine HR8.out.mono ?_
  rintro e w9 ⟨rfl, rfl⟩
  clear HR8
  have HA : Hid (Calls Tryd.prog 12 #[.pointer (some ⟨Wb, 0, none⟩), .int .u8 120] w9 fun e w' => e = .returned (.tuple #[]) ∧ w9.grownBy w' (some Wb) ∧ WkAt w5.heap.size w' Wb M97 2 zeroS (1 ||| rulesG M97.rs zeroS) true) := byte97_any Wb 120 w9 HWK8.out (HT.out.later HB8.out) h50 (by decide) (by decide) lt01 next_x
  go_wp2_with fail
  refine HA.out.mono ?_
  rintro e w10 ⟨rfl, hg10, hwk10⟩
  rw [rul0] at hwk10
  have HB10 : Hid (Below w.heap.size w w10) := HB8.out.grown hg10 HB8.out.size (fun k e => by cases e; exact hWb)
  have HC10 : Hid (w10.cell? ⟨g8, 1, none⟩ = some (.int .i64 1)) := (World.cell?_of_block (a := ⟨g8, 1, none⟩) (hg10.block g8 HG8.out.1 (fun e => HG8.out.2 (by cases e; rfl)))).trans HC8.out
  have HWK10 : Hid (WkAt w5.heap.size w10 Wb M97 2 zeroS 1 true) := hwk10
  have HS10 : Hid (Calls Tryd.prog 9 #[.pointer (some ⟨Wb, 0, none⟩)] w10 _) := states_any Wb w10 hwk10 (HT.out.later HB10.out) (by decide) lt0 (by rw [els0]; decide)
  clear hg10 hwk10 HA HB8 HWK8 HC8
  go_wp2_with fail
  refine HS10.out.mono ?_
  rintro e w11 ⟨V11, rfl, hst11, k11⟩
  rw [els0] at hst11
  obtain ⟨g11, c11, rfl, _, _⟩ := hst11.len (by simp)
  have HB11 : Hid (Below w.heap.size w w11) := below_step HB10.out k11
  have HWK11 : Hid (WkAt w5.heap.size w11 Wb M97 2 zeroS 1 true) := HWK10.out.later k11
  have HC11 : Hid (w11.cell? ⟨g8, 1, none⟩ = some (.int .i64 1)) := (World.cell?_of_block (a := ⟨g8, 1, none⟩) (k11.block g8 (lt_of_cell HC10.out))).trans HC10.out
  have HZ : Hid (Calls Tryd.prog 8 #[.agg #[.int .i64 0, .slice none 0 0, .slice none 0 0]] w11 _) := begin0_any w11 (HT.out.later HB11.out)
  clear hst11 k11 HS10 HB10 HWK10 HC10
  simp only [List.length_cons, List.length_nil, Nat.zero_add]
  go_wp2_with fail
  refine HZ.out.mono ?_
  rintro e w12 ⟨rfl, k12⟩
  have HB12 : Hid (Below w.heap.size w w12) := below_step HB11.out k12
  have HWK12 : Hid (WkAt w5.heap.size w12 Wb M97 2 zeroS 1 true) := HWK11.out.later k12
  have hc12 : w12.cell? ⟨g8, 1, none⟩ = some (.int .i64 1) := (World.cell?_of_block (a := ⟨g8, 1, none⟩) (k12.block g8 (lt_of_cell HC11.out))).trans HC11.out
  have HEN : Hid (Calls Tryd.prog 11 #[.pointer (some ⟨Wb, 0, none⟩)] w12 _) := end_any Wb w12 HWK12.out HF.out (HT.out.later HB12.out) (by decide) (by decide) (by decide) lt0 (fun s h => Or.inl (by simpa [zeroS] using h))
  clear k12 HZ HB11 HWK11 HC11
  go_wp2_with fail
  refine HEN.out.mono ?_
  rintro e w13 ⟨v, rfl, hen, k13⟩
  have hv : v = 1 := by
    have h1 : EndOf M97 (!true) zeroS 1 (1 ||| rulesG M97.rs zeroS) := ⟨zeroS, isCl97 _ _ _, rfl⟩
    rw [rul0] at h1
    exact hen.uniq h1
  subst hv
  have HB13 : Hid (Below w.heap.size w w13) := below_step HB12.out k13
  clear hen k13 HEN hc12
  go_wp2
  go_ret
  exact ⟨rfl, HB13.out⟩
end Go.Proofs.YtmjnobdlgbojoaaDoor
