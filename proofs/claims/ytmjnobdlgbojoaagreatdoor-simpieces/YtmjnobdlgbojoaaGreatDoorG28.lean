
import Derived.Test.YtmjnobdlgbojoaaGreatDoorG27
import Derived.Test.YtmjnobdlgbojoaaGreatDoorG17
namespace Go.Proofs.YtmjnobdlgbojoaaGreatDoor
open Go.RowKit
attribute [local go_sem ↓] Go.wp_at_zero Go.wp_at_succ
def bts (s : ByteArray) : List Nat := s.data.toList.map UInt8.toNat
theorem bts_length (s : ByteArray) : (bts s).length = s.size := by unfold bts; rw [List.length_map]; rfl
theorem bts_take (s : ByteArray) {k : Nat} (h : k < s.size) : (bts s).take (k + 1) = (bts s).take k ++ [s[k].toNat] := by
  have h2 : (bts s)[k]? = some s[k].toNat := by
    unfold bts
    rw [List.getElem?_map]
    have : s.data.toList[k]? = some s[k] := by
      rw [List.getElem?_eq_getElem (by simpa using h)]
      rfl
    rw [this]
    rfl
  rw [List.take_add_one, h2]
  rfl
def LineOf (M : Ma) (l : List Nat) (x : Nat) : Prop := ∃ g r, Mom M l g r ∧ EndOf M (decide (l = [])) g r x
theorem LineOf.uniq {M : Ma} {l : List Nat} {x y : Nat} (h1 : LineOf M l x) (h2 : LineOf M l y) : x = y := by
  obtain ⟨g, r, a1, a2⟩ := h1
  obtain ⟨g', r', b1, b2⟩ := h2
  obtain ⟨rfl, rfl⟩ := a1.uniq b1
  exact a2.uniq b2
theorem Mom.cnt {M : Ma} {l : List Nat} {g : Oct.S} {r : Nat} (h : Mom M l g r) : ∀ s, g s = true → s = 0 ∨ ∃ y ∈ M.es, y.t.toNat = s := by
  cases h with
  | beg g h => exact fun s hs => rch_cnt (fun t ht => Or.inl (by simpa [zeroS] using ht)) ((h s).1 hs)
  | byte l g r b g2 _ hc =>
    refine fun s hs => rch_cnt (fun t ht => ?_) ((hc s).1 hs)
    simp only [nextS, Bool.or_eq_true, decide_eq_true_eq, List.any_eq_true, Bool.and_eq_true] at ht
    rcases ht with ht | ⟨y, hy, _, ht⟩
    · exact Or.inl ht
    · exact Or.inr ⟨y, hy, ht⟩
def LinePost (w : World) (M : Ma) (s : ByteArray) (e : Ending) (w' : World) : Prop := Below w.heap.size w w' ∧ ∃ v : Nat, e = .returned (.tuple #[.int .u32 (v : Nat), .int .i64 (if rightOf M then 0 else 70)]) ∧ (if rightOf M then LineOf M (bts s) v else v = 0)
set_option maxRecDepth 8000 in
set_option maxHeartbeats 4000000 in
theorem line_any (M : Ma) (x : Nf) (s : ByteArray) (w : World) (hs : s.size ≤ maxLen) (hx : MaAt (fun _ => True) w M x) (he : M.es.length ≤ 2513169434900) (hr : M.rs.length ≤ 35184372088832) (h32 : ∀ z ∈ M.rs, z < 4294967296) (hT : Tab w) : Calls Tryz.prog 10 #[x.val, .string s] w (LinePost w M s) := by
  unfold maxLen at hs
  have kk : Below w.heap.size w (w.alloc (.cells #[.int .i64 x.S, .slice x.ea x.en x.ec, .slice x.ra x.rn x.rc] 37)) := (Below.refl _ _).alloc (Nat.le_refl _) _
  have HNX : Hid (NFB (w.alloc (.cells #[.int .i64 x.S, .slice x.ea x.en x.ec, .slice x.ra x.rn x.rc] 37)) w.heap.size x) := nfb_new w x
  have HB : Hid (Below w.heap.size w (w.alloc (.cells #[.int .i64 x.S, .slice x.ea x.en x.ec, .slice x.ra x.rn x.rc] 37))) := kk
  have HC : Hid (Calls Tryz.prog 12 #[x.val] (w.alloc (.cells #[.int .i64 x.S, .slice x.ea x.en x.ec, .slice x.ra x.rn x.rc] 37)) (BeginPost (w.alloc (.cells #[.int .i64 x.S, .slice x.ea x.en x.ec, .slice x.ra x.rn x.rc] 37)) M)) := begin_any M x _ (hx.later kk) he hr h32 (hT.later kk)
  obtain ⟨w1, hw1⟩ : ∃ w1, w.alloc (.cells #[.int .i64 x.S, .slice x.ea x.en x.ec, .slice x.ra x.rn x.rc] 37) = w1 := ⟨_, rfl⟩
  rw [hw1] at HNX HB HC
  obtain ⟨A, hA⟩ : ∃ A, w.heap.size = A := ⟨_, rfl⟩
  rw [hA] at HNX
  have HW1 : Hid (w.alloc (.cells #[.int .i64 x.S, .slice x.ea x.en x.ec, .slice x.ra x.rn x.rc] 37) = w1) := hw1
  have HAA : Hid (w.heap.size = A) := hA
  have HT : Hid (Tab w) := hT
  have H32 : Hid (∀ z ∈ M.rs, z < 4294967296) := h32
  clear kk hx hw1 hA hT h32
  obtain ⟨xS, xa, en, xc, xra, xrn, xrc⟩ := x
  unfold Nf.val at HC
  unfold Nf.val
  simp only at HC HW1 ⊢
  obtain ⟨b0, b1, b2⟩ := HNX.out.cells
  simp only at b0 b1 b2
  go_enter Tryz.func10, Tryz.ntmps10
  go_upto_region 1 with fail
  rw [HW1.out, HAA.out]
  clear HW1
  go_wp2_with fail
  refine HC.out.mono ?_
  rintro e w2 ⟨k2, hpost⟩
  have HB2 : Hid (Below w.heap.size w w2) := below_step HB.out k2
  have hw1s : w.heap.size ≤ w1.heap.size := HB.out.size
  clear HC HNX b0 b1 b2 k2
  rcases hpost with ⟨hok, rfl⟩ | ⟨hok, Wb, g, r, rfl, hm, hwk⟩
  · have HOK : Hid (rightOf M = false) := hok
    clear hok
    go_wp2
    go_ret2
    exact ⟨HB2.out, 0, by rw [HOK.out]; rfl, by rw [HOK.out]; simp⟩
  · have HOK : Hid (rightOf M = true) := hok
    have HF : Hid (Fits M M.rs.length) := fits_of hok H32.out
    have HWK : Hid (WkAt w1.heap.size w2 Wb M M.rs.length g r false) := hwk
    have HMM : Hid (Mom M [] g r) := hm
    have hbase : w1.heap.size ≠ 0 := by have := HT.out.pos; omega
    have hWlo : w.heap.size ≤ Wb := by have := hwk.1; omega
    clear hok hm hwk HB
    go_wp2_with fail
    go_loopw [19] (fun i u => ∃ j : Nat, i = .int .i64 (j : Nat) ∧ j ≤ s.size ∧ Hid (∃ g r, Mom M ((bts s).take j) g r ∧ WkAt w1.heap.size u Wb M M.rs.length g r (decide (0 < j)) ∧ Below w.heap.size w u)) (fun i _ => s.size - (intOf i).toNat)
    case atStart => exact ⟨0, rfl, Nat.zero_le _, g, r, HMM.out, HWK.out, HB2.out⟩
    case round =>
      obtain ⟨j, rfl, hjn, HJ⟩ := hrel
      obtain ⟨g1, r1, hm1, hwk1, hb1⟩ := HJ.out
      have hr1 := hm1.r32 HF.out
      have hlt1 := hm1.lt HF.out
      have hT1 := HT.out.later hb1
      by_cases hlt : j < s.size
      · have hlt' : (j : Int) < (s.size : Int) := by omega
        have hb256 : s[j].toNat < 256 := UInt8.toNat_lt _
        have HBY : Hid (Calls Tryz.prog 13 #[.pointer (some ⟨Wb, 0, none⟩), .int .u8 (s[j].toNat : Nat)] wr _) := byte_any Wb s[j].toNat wr hwk1 HF.out hT1 hbase hb256 hr he hr1 hlt1
        have HTK : Hid ((bts s).take (j + 1) = (bts s).take j ++ [s[j].toNat]) := bts_take s hlt
        have HM1 : Hid (Mom M ((bts s).take j) g1 r1) := hm1
        have HB1 : Hid (Below w.heap.size w wr) := hb1
        clear HJ hm1 hwk1 hb1 hT1 hlt1 hr1
        go_wp2_with fail
        refine HBY.out.mono ?_
        rintro e w3 ⟨rfl, hg3, g2, hcl, hwk3⟩
        have HJ2 : Hid (∃ g r, Mom M ((bts s).take (j + 1)) g r ∧ WkAt w1.heap.size w3 Wb M M.rs.length g r (decide (0 < j + 1)) ∧ Below w.heap.size w w3) := by
          refine ⟨g2, r1 ||| rulesG M.rs g2, ?_, ?_, HB1.out.grown hg3 HB1.out.size (fun k e => by cases e; exact hWlo)⟩
          · rw [HTK.out]; exact .byte _ _ _ _ _ HM1.out hcl
          · rw [decide_eq_true (by omega)]; exact hwk3
        clear hg3 hcl hwk3 HBY
        go_wp2
        go_roundw
        case rel => exact ⟨j + 1, by go_num, by omega, HJ2⟩
        case measure => simp [intOf]; omega
      · have hlt' : ¬ (j : Int) < (s.size : Int) := by omega
        have hcn := hm1.cnt
        have HEND : Hid (Calls Tryz.prog 16 #[.pointer (some ⟨Wb, 0, none⟩)] wr _) := end_any Wb wr hwk1 HF.out hT1 hr he hr1 hlt1 hcn
        have htk : (bts s).take j = bts s := List.take_of_length_le (by rw [bts_length]; omega)
        have hbg : (!decide (0 < j)) = decide (bts s = []) := by
          have e : j = (bts s).length := by rw [bts_length]; omega
          rw [e]
          cases hb : bts s <;> simp
        rw [htk] at hm1
        rw [hbg] at HEND
        have HM1 : Hid (Mom M (bts s) g1 r1) := hm1
        have HB1 : Hid (Below w.heap.size w wr) := hb1
        clear HJ hm1 hwk1 hb1 hT1 hlt1 hr1 hcn htk hbg
        go_wp2_with fail
        refine HEND.out.mono ?_
        rintro e w3 ⟨v, rfl, hen, k3⟩
        have HL : Hid (LineOf M (bts s) v) := ⟨g1, r1, HM1.out, hen⟩
        have HB3 : Hid (Below w.heap.size w w3) := below_step HB1.out k3
        clear hen k3 HEND
        go_wp2
        go_ret2
        exact ⟨HB3.out, v, by rw [HOK.out]; rfl, by rw [HOK.out]; exact HL.out⟩
end Go.Proofs.YtmjnobdlgbojoaaGreatDoor


namespace Go.Proofs.YtmjnobdlgbojoaaGreatDoor
open Go.RowKit
attribute [local go_sem ↓] Go.wp_at_zero Go.wp_at_succ
def let97 : Oct.S := Oct.ins Oct.none 97
def eg97 : Eg := ⟨2, 0, 1, let97⟩
def M97 : Ma := ⟨2, [eg97], [0, 1]⟩
theorem w97 : Oct.word let97 0 = 0 ∧ Oct.word let97 1 = 8589934592 ∧ Oct.word let97 2 = 0 ∧ Oct.word let97 3 = 0 := by decide +kernel
set_option maxHeartbeats 2000000 in
theorem letter_any (w : World) : Calls Tryz.prog 11 #[.int .u8 97] w fun e w' => ∃ x : Nf, e = .returned x.val ∧ MaAt (fun _ => True) w' M97 x ∧ Below w.heap.size w w' := by
  obtain ⟨q0, q1, q2, q3⟩ := w97
  have HF : Hid (∀ (u : World) (E R : Nat), u.heap[E]? = some (.cells #[.int .i64 2, .int .i64 0, .int .i64 1, .int .u64 0, .int .u64 8589934592, .int .u64 0, .int .u64 0] 66 (0, 0)) → u.heap[R]? = some (.cells #[.int .u32 0, .int .u32 1] 44 (0, 0)) → MaAt (fun _ => True) u M97 ⟨2, some ⟨E, 0, none⟩, 1, 1, some ⟨R, 0, none⟩, 2, 2⟩) := fun u E R hE hR => by
    refine ⟨rfl, rfl, rfl, Or.inr ⟨E, 0, rfl, trivial, fun j v hj => ?_⟩, Or.inr ⟨R, 0, rfl, trivial, fun j v hj => ?_⟩⟩
    · rw [Nat.zero_add, cell_of_row _ _ _ _ _ _ hE]
      have e : flatE M97.es = [.int .i64 2, .int .i64 0, .int .i64 1, .int .u64 0, .int .u64 8589934592, .int .u64 0, .int .u64 0] := by
        simp only [M97, eg97, flatE, List.flatMap_cons, List.flatMap_nil, List.append_nil, Eg.cells, q0, q1, q2, q3]
        rfl
      rw [e] at hj
      rw [← hj]
      simp
    · rw [Nat.zero_add, cell_of_row _ _ _ _ _ _ hR]
      rcases j with _ | _ | j
      · simp [M97] at hj; subst hj; rfl
      · simp [M97] at hj; subst hj; rfl
      · simp [M97] at hj
  clear q0 q1 q2 q3
  go_enter Tryz.func11, Tryz.ntmps11
  go_wp2
  refine bodyPost_ret (v := Nf.val ⟨2, some ⟨w.heap.size + 1 + 1, 0, none⟩, 1, 1, some ⟨w.heap.size + 1 + 1 + 1, 0, none⟩, 2, 2⟩) (by simp [results, Tryz.results11, go_sem, Nf.val]) rfl ⟨_, rfl, HF.out _ _ _ ?_ ?_, ?_⟩
  · refine (Below.heap_alloc _ _ _ (by simp)).trans ?_
    have h := fun o1 o2 => heap_alloc_new ((w.alloc o1).alloc o2) (.cells #[.int .i64 2, .int .i64 0, .int .i64 1, .int .u64 0, .int .u64 8589934592, .int .u64 0, .int .u64 0] 66)
    simp only [World.size_alloc] at h
    exact h _ _
  · have h := fun o1 o2 o3 => heap_alloc_new (((w.alloc o1).alloc o2).alloc o3) (.cells #[.int .u32 0, .int .u32 1] 44)
    simp only [World.size_alloc] at h
    exact h _ _ _
  · exact ((((Below.refl _ w).alloc (Nat.le_refl _) _).alloc (by simp) _).alloc (by simp; omega) _).alloc (by simp; omega) _
theorem isCl97 (b e : Bool) (f : Oct.S) : IsCl M97.es (kmov b e) f f := by
  intro s
  refine ⟨fun h => .base s h, fun h => ?_⟩
  cases h with
  | base s h => exact h
  | step y hy hp _ =>
    simp [M97, eg97] at hy
    subst hy
    simp [kmov] at hp
def s01 : Oct.S := fun s => decide (s ≤ 1)
theorem next_a : nextS M97.es 97 zeroS = s01 := by
  funext s
  rw [Bool.eq_iff_iff]
  simp [nextS, M97, eg97, zeroS, s01, let97, Oct.ins, Oct.none]
  omega
theorem next_x {g : Oct.S} : nextS M97.es 120 g = zeroS := by
  funext s
  rw [Bool.eq_iff_iff]
  simp [nextS, M97, eg97, zeroS, let97, Oct.ins, Oct.none]
theorem rul0 : rulesG M97.rs zeroS = 0 := by decide +kernel
theorem rul1 : rulesG M97.rs s01 = 1 := by decide +kernel
theorem mom0 : Mom M97 [] zeroS 0 := by
  have h := Mom.beg (M := M97) zeroS (isCl97 true false zeroS)
  rw [rul0] at h
  exact h
theorem line_xax : LineOf M97 [120, 97, 120] 1 := by
  have h1 : Mom M97 ([] ++ [120]) zeroS (0 ||| rulesG M97.rs zeroS) := .byte [] _ _ 120 zeroS mom0 (by rw [next_x]; exact isCl97 _ _ _)
  have h2 : Mom M97 (([] ++ [120]) ++ [97]) s01 _ := .byte _ _ _ 97 s01 h1 (by rw [next_a]; exact isCl97 _ _ _)
  have h3 : Mom M97 ((([] ++ [120]) ++ [97]) ++ [120]) zeroS _ := .byte _ _ _ 120 zeroS h2 (by rw [next_x]; exact isCl97 _ _ _)
  refine ⟨zeroS, _, h3, zeroS, isCl97 _ _ _, ?_⟩
  rw [rul0, rul1]
  rfl
theorem line_x : LineOf M97 [120] 0 := by
  have h1 : Mom M97 ([] ++ [120]) zeroS (0 ||| rulesG M97.rs zeroS) := .byte [] _ _ 120 zeroS mom0 (by rw [next_x]; exact isCl97 _ _ _)
  refine ⟨zeroS, _, h1, zeroS, isCl97 _ _ _, ?_⟩
  rw [rul0]
  rfl
theorem right97 : rightOf M97 = true := by decide +kernel
theorem right0 : rightOf zeroMa = false := by decide +kernel
theorem els0 : Oct.els zeroS 2 = [0] := by decide +kernel
theorem els1 : Oct.els s01 2 = [0, 1] := by decide +kernel
theorem h32_97 : ∀ z ∈ M97.rs, z < 4294967296 := by decide
theorem line97_any (x : Nf) (s : ByteArray) (v : Nat) (w : World) (hs : s.size ≤ maxLen) (hx : MaAt (fun _ => True) w M97 x) (hT : Tab w) (hv : LineOf M97 (bts s) v) : Calls Tryz.prog 10 #[x.val, .string s] w fun e w' => e = .returned (.tuple #[.int .u32 (v : Nat), .int .i64 0]) ∧ Below w.heap.size w w' := by
  refine (line_any M97 x s w hs hx (by decide) (by decide) h32_97 hT).mono ?_
  rintro e w' ⟨k, v', rfl, h⟩
  rw [right97] at h
  rw [LineOf.uniq h hv, right97]
  exact ⟨rfl, k⟩
theorem begin97_any (x : Nf) (w : World) (hx : MaAt (fun _ => True) w M97 x) (hT : Tab w) : Calls Tryz.prog 12 #[x.val] w fun e w' => ∃ Wb, e = .returned (.tuple #[.pointer (some ⟨Wb, 0, none⟩), .int .i64 0]) ∧ WkAt w.heap.size w' Wb M97 2 zeroS 0 false ∧ Below w.heap.size w w' := by
  refine (begin_any M97 x w hx (by decide) (by decide) h32_97 hT).mono ?_
  rintro e w' ⟨k, ⟨h, _⟩ | ⟨_, Wb, g, r, rfl, hm, hwk⟩⟩
  · rw [right97] at h; cases h
  · obtain ⟨rfl, rfl⟩ := hm.uniq mom0
    exact ⟨Wb, rfl, hwk, k⟩
theorem begin0_any (w : World) (hT : Tab w) : Calls Tryz.prog 12 #[.agg #[.int .i64 0, .slice none 0 0, .slice none 0 0]] w fun e w' => e = .returned (.tuple #[.pointer none, .int .i64 70]) ∧ Below w.heap.size w w' := by
  refine (begin_any zeroMa ⟨0, none, 0, 0, none, 0, 0⟩ w (zero_maAt _ w) (by decide) (by decide) (by intro z hz; cases hz) hT).mono ?_
  rintro e w' ⟨k, ⟨_, h⟩ | ⟨h, _⟩⟩
  · exact ⟨h, k⟩
  · rw [right0] at h; cases h
theorem byte97_any {base : Nat} {g g2 : Oct.S} {r : Nat} {bg : Bool} (Wb b : Nat) (w : World) (hwk : WkAt base w Wb M97 2 g r bg) (hT : Tab w) (h0 : base ≠ 0) (hb : b < 256) (hr : r < 4294967296) (hlt : ∀ s, g s = true → s < 2) (hn : nextS M97.es b g = g2) : Calls Tryz.prog 13 #[.pointer (some ⟨Wb, 0, none⟩), .int .u8 (b : Nat)] w fun e w' => e = .returned (.tuple #[]) ∧ w.grownBy w' (some Wb) ∧ WkAt base w' Wb M97 2 g2 (r ||| rulesG M97.rs g2) true := by
  refine (byte_any Wb b w hwk (fits_of right97 h32_97) hT h0 hb (by decide) (by decide) hr hlt).mono ?_
  rintro e w' ⟨rfl, hg, g3, hc, h⟩
  rw [hn] at hc
  obtain rfl := hc.uniq (isCl97 _ _ _)
  exact ⟨rfl, hg, h⟩
theorem lt0 : ∀ s, zeroS s = true → s < 2 := fun s h => by simp [zeroS] at h; omega
theorem lt01 : ∀ s, s01 s = true → s < 2 := fun s h => by simp [s01] at h; omega
theorem Stk.len {w : World} {base : Nat} {V : Value} {l : List Nat} (h : Stk w base V l) (hl : l ≠ []) : ∃ g c, V = .slice (some ⟨g, 0, none⟩) l.length c ∧ base ≤ g ∧ (∀ (j x : Nat), l[j]? = some x → w.cell? ⟨g, j, none⟩ = some (.int .i64 (x : Nat))) := by
  rcases h.2 with ⟨hv, hn⟩ | ⟨g, cap, cur, hv, hbg, hg, h1, h2, h3, h4⟩
  · exact absurd (List.length_eq_zero_iff.1 hn) hl
  · refine ⟨g, cap, hv, hbg, fun j x hx => ?_⟩
    have hjl := (List.getElem?_eq_some_iff.1 hx).1
    have e : (ints l)[j]? = some (.int .i64 (x : Nat)) := by unfold ints; rw [List.getElem?_map, hx]; rfl
    rw [← h4, List.getElem?_take_of_lt (by omega)] at e
    simp only [World.cell?, hg]
    simpa using e
set_option maxRecDepth 8000 in
set_option maxHeartbeats 8000000 in
theorem fixed_any (w : World) (hT : Tab w) : Calls Tryz.prog 4 #[] w fun e w' => e = .returned (.bool true) ∧ Below w.heap.size w w' := by
  have HT : Hid (Tab w) := hT
  have HF : Hid (Fits M97 2) := fits_of right97 h32_97
  have hpos := hT.pos
  clear hT
  go_enter Tryz.func4, Tryz.ntmps4
  have hbt1 : bts ⟨#[120, 97, 120]⟩ = [120, 97, 120] := by decide +kernel
  have hbt2 : bts ⟨#[120]⟩ = [120] := by decide +kernel
  have HBT : Hid (bts ⟨#[120, 97, 120]⟩ = [120, 97, 120] ∧ bts ⟨#[120]⟩ = [120]) := ⟨hbt1, hbt2⟩
  clear hbt1 hbt2
  go_wp2_with fail
  refine (letter_any w).mono ?_
  rintro e w1 ⟨x1, rfl, hx1, k1⟩
  have HL1 : Hid (Calls Tryz.prog 10 #[x1.val, .string ⟨#[120, 97, 120]⟩] w1 _) := line97_any x1 ⟨#[120, 97, 120]⟩ 1 w1 (by decide) hx1 (HT.out.later k1) (by rw [HBT.out.1]; exact line_xax)
  have HB1 : Hid (Below w.heap.size w w1) := k1
  obtain ⟨xv, hxv⟩ : ∃ xv, xv = x1.val := ⟨_, rfl⟩
  rw [← hxv] at HL1 ⊢
  clear hx1 k1 hxv
  go_wp2_with fail
  refine HL1.out.mono ?_
  rintro e w2 ⟨rfl, k2⟩
  have HB2 : Hid (Below w.heap.size w w2) := below_step HB1.out k2
  clear k2 HL1 HB1
  go_wp2_with fail
  refine (letter_any w2).mono ?_
  rintro e w3 ⟨x3, rfl, hx3, k3⟩
  have HB3 : Hid (Below w.heap.size w w3) := below_step HB2.out k3
  have HL3 : Hid (Calls Tryz.prog 10 #[x3.val, .string ⟨#[120]⟩] w3 _) := line97_any x3 ⟨#[120]⟩ 0 w3 (by decide) hx3 (HT.out.later HB3.out) (by rw [HBT.out.2]; exact line_x)
  obtain ⟨xv3, hxv⟩ : ∃ xv, xv = x3.val := ⟨_, rfl⟩
  rw [← hxv] at HL3 ⊢
  clear hx3 k3 hxv HB2
  go_wp2_with fail
  refine HL3.out.mono ?_
  rintro e w4 ⟨rfl, k4⟩
  have HB4 : Hid (Below w.heap.size w w4) := below_step HB3.out k4
  clear k4 HL3 HB3
  go_wp2_with fail
  refine (letter_any w4).mono ?_
  rintro e w5 ⟨x5, rfl, hx5, k5⟩
  have HB5 : Hid (Below w.heap.size w w5) := below_step HB4.out k5
  have HL5 : Hid (Calls Tryz.prog 12 #[x5.val] w5 _) := begin97_any x5 w5 hx5 (HT.out.later HB5.out)
  obtain ⟨xv5, hxv⟩ : ∃ xv, xv = x5.val := ⟨_, rfl⟩
  rw [← hxv] at HL5 ⊢
  clear hx5 k5 hxv HB4
  go_wp2_with fail
  refine HL5.out.mono ?_
  rintro e w6 ⟨Wb, rfl, hwk6, k6⟩
  have HB6 : Hid (Below w.heap.size w w6) := below_step HB5.out k6
  have hs5 : w.heap.size ≤ w5.heap.size := HB5.out.size
  have hWb : w.heap.size ≤ Wb := by have := hwk6.1; omega
  have h50 : w5.heap.size ≠ 0 := by omega
  have HA : Hid (Calls Tryz.prog 13 #[.pointer (some ⟨Wb, 0, none⟩), .int .u8 97] w6 fun e w' => e = .returned (.tuple #[]) ∧ w6.grownBy w' (some Wb) ∧ WkAt w5.heap.size w' Wb M97 2 s01 (0 ||| rulesG M97.rs s01) true) := byte97_any Wb 97 w6 hwk6 (HT.out.later HB6.out) h50 (by decide) (by decide) lt0 next_a
  clear HL5 hwk6 k6 HB5
  go_wp2_with fail
  refine HA.out.mono ?_
  rintro e w7 ⟨rfl, hg7, hwk7⟩
  rw [rul1] at hwk7
  have HB7 : Hid (Below w.heap.size w w7) := HB6.out.grown hg7 HB6.out.size (fun k e => by cases e; exact hWb)
  have HWK7 : Hid (WkAt w5.heap.size w7 Wb M97 2 s01 1 true) := hwk7
  have HS7 : Hid (Calls Tryz.prog 14 #[.pointer (some ⟨Wb, 0, none⟩)] w7 _) := states_any Wb w7 hwk7 (HT.out.later HB7.out) (by decide) lt01 (by rw [els1]; decide)
  clear hg7 hwk7 HA HB6
  go_wp2_with fail
  refine HS7.out.mono ?_
  rintro e w8 ⟨V8, rfl, hst8, k8⟩
  rw [els1] at hst8
  obtain ⟨g8, c8, rfl, hg8, hc8⟩ := hst8.len (by simp)
  have HB8 : Hid (Below w.heap.size w w8) := below_step HB7.out k8
  have HWK8 : Hid (WkAt w5.heap.size w8 Wb M97 2 s01 1 true) := HWK7.out.later k8
  have HC8 : Hid (w8.cell? ⟨g8, 1, none⟩ = some (.int .i64 1)) := hc8 1 1 rfl
  have HR8 : Hid (Calls Tryz.prog 15 #[.pointer (some ⟨Wb, 0, none⟩)] w8 _) := rules_any Wb w8 HWK8.out
  have HG8 : Hid (g8 < w8.heap.size ∧ g8 ≠ Wb) := ⟨lt_of_cell HC8.out, by
    have h1 : Wb < w7.heap.size := HWK7.out.lt
    omega⟩
  clear hst8 hc8 k8 HS7 HB7 HWK7 hg8
  simp only [List.length_cons, List.length_nil, Nat.zero_add, Nat.reduceAdd]
  go_wp2_with fail
  refine HR8.out.mono ?_
  rintro e w9 ⟨rfl, rfl⟩
  clear HR8
  have HA : Hid (Calls Tryz.prog 13 #[.pointer (some ⟨Wb, 0, none⟩), .int .u8 120] w9 fun e w' => e = .returned (.tuple #[]) ∧ w9.grownBy w' (some Wb) ∧ WkAt w5.heap.size w' Wb M97 2 zeroS (1 ||| rulesG M97.rs zeroS) true) := byte97_any Wb 120 w9 HWK8.out (HT.out.later HB8.out) h50 (by decide) (by decide) lt01 next_x
  go_wp2_with fail
  refine HA.out.mono ?_
  rintro e w10 ⟨rfl, hg10, hwk10⟩
  rw [rul0] at hwk10
  have HB10 : Hid (Below w.heap.size w w10) := HB8.out.grown hg10 HB8.out.size (fun k e => by cases e; exact hWb)
  have HC10 : Hid (w10.cell? ⟨g8, 1, none⟩ = some (.int .i64 1)) := (World.cell?_of_block (a := ⟨g8, 1, none⟩) (hg10.block g8 HG8.out.1 (fun e => HG8.out.2 (by cases e; rfl)))).trans HC8.out
  have HWK10 : Hid (WkAt w5.heap.size w10 Wb M97 2 zeroS 1 true) := hwk10
  have HS10 : Hid (Calls Tryz.prog 14 #[.pointer (some ⟨Wb, 0, none⟩)] w10 _) := states_any Wb w10 hwk10 (HT.out.later HB10.out) (by decide) lt0 (by rw [els0]; decide)
  clear hg10 hwk10 HA HB8 HWK8 HC8
  go_wp2_with fail
  refine HS10.out.mono ?_
  rintro e w11 ⟨V11, rfl, hst11, k11⟩
  rw [els0] at hst11
  obtain ⟨g11, c11, rfl, _, _⟩ := hst11.len (by simp)
  have HB11 : Hid (Below w.heap.size w w11) := below_step HB10.out k11
  have HWK11 : Hid (WkAt w5.heap.size w11 Wb M97 2 zeroS 1 true) := HWK10.out.later k11
  have HC11 : Hid (w11.cell? ⟨g8, 1, none⟩ = some (.int .i64 1)) := (World.cell?_of_block (a := ⟨g8, 1, none⟩) (k11.block g8 (lt_of_cell HC10.out))).trans HC10.out
  have HZ : Hid (Calls Tryz.prog 12 #[.agg #[.int .i64 0, .slice none 0 0, .slice none 0 0]] w11 _) := begin0_any w11 (HT.out.later HB11.out)
  clear hst11 k11 HS10 HB10 HWK10 HC10
  simp only [List.length_cons, List.length_nil, Nat.zero_add]
  go_wp2_with fail
  refine HZ.out.mono ?_
  rintro e w12 ⟨rfl, k12⟩
  have HB12 : Hid (Below w.heap.size w w12) := below_step HB11.out k12
  have HWK12 : Hid (WkAt w5.heap.size w12 Wb M97 2 zeroS 1 true) := HWK11.out.later k12
  have hc12 : w12.cell? ⟨g8, 1, none⟩ = some (.int .i64 1) := (World.cell?_of_block (a := ⟨g8, 1, none⟩) (k12.block g8 (lt_of_cell HC11.out))).trans HC11.out
  have HEN : Hid (Calls Tryz.prog 16 #[.pointer (some ⟨Wb, 0, none⟩)] w12 _) := end_any Wb w12 HWK12.out HF.out (HT.out.later HB12.out) (by decide) (by decide) (by decide) lt0 (fun s h => Or.inl (by simpa [zeroS] using h))
  clear k12 HZ HB11 HWK11 HC11
  go_wp2_with fail
  refine HEN.out.mono ?_
  rintro e w13 ⟨v, rfl, hen, k13⟩
  have hv : v = 1 := by
    have h1 : EndOf M97 (!true) zeroS 1 (1 ||| rulesG M97.rs zeroS) := ⟨zeroS, isCl97 _ _ _, rfl⟩
    rw [rul0] at h1
    exact hen.uniq h1
  subst hv
  have HB13 : Hid (Below w.heap.size w w13) := below_step HB12.out k13
  clear hen k13 HEN hc12
  go_wp2
  go_ret
  exact ⟨rfl, HB13.out⟩
end Go.Proofs.YtmjnobdlgbojoaaGreatDoor


namespace Go.Proofs.YtmjnobdlgbojoaaGreatDoor
section
variable {S : Nat} {M T : Ma} {p : Eg → Bool} {f g : Oct.S}
end
end Go.Proofs.YtmjnobdlgbojoaaGreatDoor


namespace Go.Proofs.YtmjnobdlgbojoaaGreatDoor
open Go.RowKit
attribute [local go_sem ↓] Go.wp_at_zero Go.wp_at_succ
end Go.Proofs.YtmjnobdlgbojoaaGreatDoor


namespace Go.Proofs.YtmjnobdlgbojoaaGreatDoor
open Go.RowKit
attribute [local go_sem ↓] Go.wp_at_zero Go.wp_at_succ
def bsOf (g : Oct.S) (n : Nat) : List Bool := (List.range n).map g
theorem bsOf_len (g : Oct.S) (n : Nat) : (bsOf g n).length = n := by simp [bsOf]
theorem bsOf_at (g : Oct.S) {n i : Nat} (h : i < n) : (bsOf g n)[i]? = some (g i) := by simp [bsOf, h]
end Go.Proofs.YtmjnobdlgbojoaaGreatDoor


namespace Go.Proofs.YtmjnobdlgbojoaaGreatDoor
def kindT : Tn → Int
  | .mk k _ _ _ _ => k
def emptyT : Tn := .mk 1 Oct.none [] 0 0
def packT : List Tn → Tn
  | [] => emptyT
  | [t] => t
  | t :: u :: ts => .mk 3 Oct.none (t :: u :: ts) 0 0
def timesT (u : Tn) (mn mx : Int) : Tn := if mx = 0 then emptyT else if kindT u = 1 ∨ (mn = 1 ∧ mx = 1) then u else .mk 5 Oct.none [u] mn mx
mutual
def trim : Tn → Tn
  | .mk k s subs mn mx =>
    if k = 3 then packT (trims subs)
    else if k = 4 then .mk 4 Oct.none (trimA subs) 0 0
    else if k = 5 then timesT (trimH subs) mn mx
    else .mk k s subs mn mx
def trims : List Tn → List Tn
  | [] => []
  | t :: ts => if kindT (trim t) = 1 then trims ts else trim t :: trims ts
def trimA : List Tn → List Tn
  | [] => []
  | t :: ts => trim t :: trimA ts
def trimH : List Tn → Tn
  | [] => emptyT
  | t :: _ => trim t
end
theorem trimA_map : ∀ ts : List Tn, trimA ts = ts.map trim
  | [] => by rw [trimA]; rfl
  | t :: ts => by rw [trimA, trimA_map ts]; rfl
theorem trimA_length (ts : List Tn) : (trimA ts).length = ts.length := by rw [trimA_map, List.length_map]
theorem trims_le : ∀ ts : List Tn, (trims ts).length ≤ ts.length
  | [] => by rw [trims]; exact Nat.le_refl _
  | t :: ts => by
    rw [trims]
    have := trims_le ts
    split
    · simp only [List.length_cons]; omega
    · simp only [List.length_cons]; omega
theorem shp_kind {k : Int} {s : Oct.S} {n : Nat} {mn mx : Int} (h : shapedT k s n mn mx = true) : k = 1 ∨ k = 2 ∨ k = 3 ∨ k = 4 ∨ k = 5 ∨ k = 6 ∨ k = 7 := by
  unfold shapedT at h
  by_cases h1 : k = 1 ∨ k = 6 ∨ k = 7
  · omega
  · rw [if_neg h1] at h
    by_cases h2 : k = 2
    · omega
    · rw [if_neg h2] at h
      by_cases h3 : k = 3 ∨ k = 4
      · omega
      · rw [if_neg h3] at h
        by_cases h5 : k = 5
        · omega
        · rw [if_neg h5] at h
          cases h
theorem shp_five {s : Oct.S} {n : Nat} {mn mx : Int} (h : shapedT 5 s n mn mx = true) : n = 1 ∧ (0 ≤ mn ∧ mn ≤ 255) ∧ (mx = -1 ∨ mn ≤ mx ∧ mx ≤ 255) := by
  unfold shapedT at h
  simp [counted] at h
  omega
theorem shp_leaf {k : Int} {s : Oct.S} {n : Nat} {mn mx : Int} (h : shapedT k s n mn mx = true) (hk : k = 1 ∨ k = 2 ∨ k = 6 ∨ k = 7) : n = 0 := by
  unfold shapedT at h
  rcases hk with rfl | rfl | rfl | rfl <;> simp at h <;> omega
theorem raw_empty : raw emptyT = 0 := by unfold emptyT; rw [raw, raws]; rfl
theorem plc_empty : (plc emptyT).2 = true := by
  unfold emptyT
  rw [plc_snd]
  unfold shapedT
  simp [noSet_none, plainT]
theorem raw_pack : ∀ ts : List Tn, raw (packT ts) = raws ts
  | [] => by rw [raws]; exact raw_empty
  | [t] => by rw [raws, raws]; rfl
  | t :: u :: ts => by
    show raw (.mk 3 Oct.none (t :: u :: ts) 0 0) = _
    rw [raw]
    rfl
theorem plc_pack : ∀ ts : List Tn, (∀ t ∈ ts, (plc t).2 = true) → (plc (packT ts)).2 = true
  | [], _ => plc_empty
  | [t], h => h t (by simp)
  | t :: u :: ts, h => by
    show (plc (.mk 3 Oct.none (t :: u :: ts) 0 0)).2 = true
    rw [plc_snd]
    unfold shapedT
    simp only [noSet_none, plainT, Bool.and_eq_true, List.all_eq_true]
    refine ⟨by simp, h⟩
theorem raw_one {t : Tn} (h : (plc t).2 = true) (hk : kindT t = 1) : raw t = 0 := by
  obtain ⟨k, s, subs, mn, mx⟩ := t
  have hk : k = 1 := hk
  subst hk
  obtain ⟨hsh, _⟩ := plc_subs h
  have hn := shp_leaf hsh (Or.inl rfl)
  have hs : subs = [] := List.length_eq_zero_iff.1 hn
  subst hs
  rw [raw, raws]
  rfl
theorem repT_one (r : Nat) : (repT r (1 : Int).toNat 1).toNat = r := by
  unfold repT
  split
  · simp; omega
  · simp
theorem repT_zero (r : Nat) {mn : Int} (h0 : 0 ≤ mn) (h : mn ≤ 0) : (repT r mn.toNat 0).toNat = 0 := by
  have e : mn = 0 := by omega
  subst e
  unfold repT
  split
  · rfl
  · simp
theorem repT_pos {r : Nat} {mn mx : Int} (hr : r ≠ 0) (h0 : 0 ≤ mn) (h1 : mx = -1 ∨ mn ≤ mx) (h2 : mx ≠ 0) : (repT r mn.toNat mx).toNat ≠ 0 := by
  have hp : ∀ m : Int, 0 ≤ m → 0 ≤ m * (r : Int) := fun m hm => Int.mul_nonneg hm (by omega)
  have hq : ∀ m : Int, 1 ≤ m → (r : Int) ≤ m * (r : Int) := fun m hm => by
    have := Int.mul_le_mul_of_nonneg_right hm (by omega : (0 : Int) ≤ (r : Int))
    omega
  unfold repT
  rw [if_neg hr]
  by_cases hm : mx = -1
  · rw [if_pos hm]
    have := hp (mn.toNat : Int) (by omega)
    omega
  · rw [if_neg hm]
    by_cases hl : ((mn.toNat : Nat) : Int) < mx
    · rw [if_pos hl]
      have := hp mx (by omega)
      omega
    · rw [if_neg hl]
      have := hq (mn.toNat : Int) (by omega)
      omega
theorem plc_times {u : Tn} {s : Oct.S} {n : Nat} {mn mx : Int} (hu : (plc u).2 = true) (h : shapedT 5 s n mn mx = true) : (plc (.mk 5 Oct.none [u] mn mx)).2 = true := by
  rw [plc_snd]
  have hc : counted mn mx = true := by
    unfold shapedT at h
    simp at h
    exact h.2
  unfold shapedT
  simp [noSet_none, hc, hu]
theorem trims_mem : ∀ {ts : List Tn} {u : Tn}, u ∈ trims ts → ∃ t ∈ ts, u = trim t ∧ kindT u ≠ 1
  | [], u, h => by rw [trims] at h; cases h
  | t :: ts, u, h => by
    rw [trims] at h
    split at h
    · obtain ⟨x, hx, e⟩ := trims_mem h
      exact ⟨x, by simp [hx], e⟩
    · rename_i hk
      rcases List.mem_cons.1 h with rfl | h
      · exact ⟨t, by simp, rfl, hk⟩
      · obtain ⟨x, hx, e⟩ := trims_mem h
        exact ⟨x, by simp [hx], e⟩
theorem raws_map {f : Tn → Tn} : ∀ ts : List Tn, (∀ t ∈ ts, raw (f t) = raw t) → raws (ts.map f) = raws ts
  | [], _ => rfl
  | t :: ts, h => by
    rw [List.map_cons, raws, raws, h t (by simp), raws_map ts (fun u hu => h u (by simp [hu]))]
theorem raws_trims : ∀ ts : List Tn, (∀ t ∈ ts, (plc (trim t)).2 = true ∧ raw (trim t) = raw t) → raws (trims ts) = raws ts
  | [], _ => by rw [trims]
  | t :: ts, h => by
    have ih := raws_trims ts (fun u hu => h u (by simp [hu]))
    obtain ⟨h1, h2⟩ := h t (by simp)
    rw [trims, raws]
    split
    · rename_i hk
      rw [ih, ← h2, raw_one h1 hk, Nat.zero_add]
    · rw [raws, ih, h2]
theorem trim_tree : ∀ (z : Nat) (t : Tn), SizeOf.sizeOf t ≤ z → (plc t).2 = true → (plc (trim t)).2 = true ∧ raw (trim t) = raw t
  | 0, .mk k s subs mn mx, hz, _ => by simp at hz
  | z + 1, .mk k s subs mn mx, hz, h => by
    obtain ⟨hsh, hsub⟩ := plc_subs h
    have ih : ∀ t ∈ subs, (plc (trim t)).2 = true ∧ raw (trim t) = raw t := fun t ht => trim_tree z t (by
      have := List.sizeOf_lt_of_mem ht
      simp at hz
      omega) (hsub t ht)
    rw [trim]
    rcases shp_kind hsh with rfl | rfl | rfl | rfl | rfl | rfl | rfl
    · simp [h]
    · simp [h]
    · rw [if_pos rfl]
      refine ⟨plc_pack _ (fun u hu => ?_), ?_⟩
      · obtain ⟨t, ht, rfl, _⟩ := trims_mem hu
        exact (ih t ht).1
      · rw [raw_pack, raws_trims subs ih, raw]
        rfl
    · rw [if_neg (by decide), if_pos rfl]
      refine ⟨?_, ?_⟩
      · rw [plc_snd]
        have hn : 2 ≤ subs.length := by
          unfold shapedT at hsh
          simp at hsh
          omega
        unfold shapedT
        simp only [noSet_none, plainT, Bool.and_eq_true, List.all_eq_true, trimA_length]
        refine ⟨by simp [hn], fun u hu => ?_⟩
        rw [trimA_map] at hu
        obtain ⟨t, ht, rfl⟩ := List.mem_map.1 hu
        exact (ih t ht).1
      · rw [raw, raw, trimA_length, trimA_map, raws_map subs (fun t ht => (ih t ht).2)]
        rfl
    · rw [if_neg (by decide), if_neg (by decide), if_pos rfl]
      obtain ⟨h1, ⟨h0, _⟩, hx⟩ := shp_five hsh
      match subs, h1, ih, hsub with
      | [u], _, ih, hsub =>
        obtain ⟨i1, i2⟩ := ih u (by simp)
        have e : raw (.mk 5 s [u] mn mx) = (repT (raw u) mn.toNat mx).toNat := by
          rw [raw, raws, raws]
          rfl
        rw [trimH, e]
        unfold timesT
        by_cases hm : mx = 0
        · rw [if_pos hm, hm]
          exact ⟨plc_empty, by rw [raw_empty, repT_zero (raw u) h0 (by omega)]⟩
        rw [if_neg hm]
        by_cases hk : kindT (trim u) = 1 ∨ (mn = 1 ∧ mx = 1)
        · rw [if_pos hk]
          refine ⟨i1, ?_⟩
          rcases hk with hk | ⟨rfl, rfl⟩
          · rw [raw_one i1 hk]
            have h2 : raw u = 0 := by rw [← i2]; exact raw_one i1 hk
            unfold repT
            rw [if_pos h2]
            rfl
          · rw [repT_one, i2]
        · rw [if_neg hk]
          refine ⟨plc_times i1 hsh, ?_⟩
          rw [raw, raws, raws, i2]
          rfl
    · simp [h]
    · simp [h]
theorem trim_plc {t : Tn} (h : (plc t).2 = true) : (plc (trim t)).2 = true := (trim_tree _ t (Nat.le_refl _) h).1
theorem trim_raw {t : Tn} (h : (plc t).2 = true) : raw (trim t) = raw t := (trim_tree _ t (Nat.le_refl _) h).2
theorem places_raw {t : Tn} (h : (plc t).2 = true) : placesOf t = min (raw t) 2048 + 1 := by unfold placesOf; rw [if_pos h, plc_raw t h]
theorem trim_places {t : Tn} (h : (plc t).2 = true) : placesOf (trim t) = placesOf t := by rw [places_raw h, places_raw (trim_plc h), trim_raw h]
theorem raws_mem : ∀ {ts : List Tn} {t : Tn}, t ∈ ts → raw t ≤ raws ts
  | [], t, h => by cases h
  | u :: ts, t, h => by
    rw [raws]
    rcases List.mem_cons.1 h with rfl | h
    · omega
    · have := raws_mem h
      omega
theorem trim_lays : ∀ (z : Nat) (t : Tn), SizeOf.sizeOf t ≤ z → (plc t).2 = true → kindT (trim t) ≠ 1 → raw t ≠ 0
  | 0, .mk k s subs mn mx, hz, _, _ => by simp at hz
  | z + 1, .mk k s subs mn mx, hz, h, hk1 => by
    obtain ⟨hsh, hsub⟩ := plc_subs h
    have ih : ∀ t ∈ subs, kindT (trim t) ≠ 1 → raw t ≠ 0 := fun t ht => trim_lays z t (by
      have := List.sizeOf_lt_of_mem ht
      simp at hz
      omega) (hsub t ht)
    rw [trim] at hk1
    rcases shp_kind hsh with rfl | rfl | rfl | rfl | rfl | rfl | rfl
    · exact absurd rfl hk1
    · rw [raw]; exact Nat.one_ne_zero
    · rw [if_pos rfl] at hk1
      rw [raw]
      show raws subs ≠ 0
      cases hts : trims subs with
      | nil => rw [hts] at hk1; exact absurd rfl hk1
      | cons u us =>
        obtain ⟨t, ht, rfl, hk⟩ := trims_mem (ts := subs) (u := u) (by rw [hts]; simp)
        have h1 := ih t ht hk
        have h2 := raws_mem ht
        omega
    · rw [raw]
      exact Nat.succ_ne_zero _
    · rw [if_neg (by decide), if_neg (by decide), if_pos rfl] at hk1
      obtain ⟨h1, ⟨h0, _⟩, hx⟩ := shp_five hsh
      match subs, h1, ih, hk1, hsub with
      | [u], _, ih, hk1, hsub =>
        have e : raw (.mk 5 s [u] mn mx) = (repT (raw u) mn.toNat mx).toNat := by
          rw [raw, raws, raws]
          rfl
        rw [e]
        rw [trimH] at hk1
        unfold timesT at hk1
        by_cases hm : mx = 0
        · rw [if_pos hm] at hk1; exact absurd rfl hk1
        rw [if_neg hm] at hk1
        have hku : kindT (trim u) ≠ 1 := by
          by_cases hk : kindT (trim u) = 1 ∨ (mn = 1 ∧ mx = 1)
          · rw [if_pos hk] at hk1; exact hk1
          · exact fun e => hk (Or.inl e)
        exact repT_pos (ih u (by simp) hku) h0 (by omega) hm
    · rw [raw]; exact Nat.one_ne_zero
    · rw [raw]; exact Nat.one_ne_zero
theorem lay_empty (m : Mk) (a : Nat) : lay emptyT m a = (m, a) := by unfold emptyT; rw [lay_mk]; simp
theorem lay_kind1 {t : Tn} (h : kindT t = 1) (m : Mk) (a : Nat) : lay t m a = (m, a) := by
  obtain ⟨k, s, subs, mn, mx⟩ := t
  have h : k = 1 := h
  subst h
  rw [lay_mk]
  simp
theorem lay_pack : ∀ (ts : List Tn) (m : Mk) (a : Nat), lay (packT ts) m a = seqs ts m a
  | [], m, a => by rw [seqs]; exact lay_empty m a
  | [t], m, a => by rw [seqs, seqs]; rfl
  | t :: u :: ts, m, a => by
    show lay (.mk 3 Oct.none (t :: u :: ts) 0 0) m a = _
    rw [lay_mk]
    simp
theorem seqs_trims : ∀ (ts : List Tn), (∀ t ∈ ts, ∀ m a, lay (trim t) m a = lay t m a) → ∀ (m : Mk) (a : Nat), seqs (trims ts) m a = seqs ts m a
  | [], _, m, a => by rw [trims]
  | t :: ts, h, m, a => by
    have ih := seqs_trims ts (fun u hu => h u (by simp [hu]))
    have h1 := h t (by simp)
    rw [trims, seqs]
    split
    · rename_i hk
      rw [← h1, lay_kind1 hk]
      exact ih m a
    · rw [seqs, h1]
      exact ih _ _
theorem alts_trim : ∀ (ts : List Tn), (∀ t ∈ ts, ∀ m a, lay (trim t) m a = lay t m a) → ∀ (m : Mk) (a : Nat) (l : List Nat), alts (trimA ts) m a l = alts ts m a l
  | [], _, m, a, l => by rw [trimA]
  | t :: ts, h, m, a, l => by
    rw [trimA, alts, alts, h t (by simp)]
    exact alts_trim ts (fun u hu => h u (by simp [hu])) _ _ _
theorem trim_lay : ∀ (z : Nat) (t : Tn), SizeOf.sizeOf t ≤ z → (plc t).2 = true → ∀ (m : Mk) (a : Nat), lay (trim t) m a = lay t m a
  | 0, .mk k s subs mn mx, hz, _ => by simp at hz
  | z + 1, .mk k s subs mn mx, hz, h => fun m a => by
    obtain ⟨hsh, hsub⟩ := plc_subs h
    have ih : ∀ t ∈ subs, ∀ m a, lay (trim t) m a = lay t m a := fun t ht => trim_lay z t (by
      have := List.sizeOf_lt_of_mem ht
      simp at hz
      omega) (hsub t ht)
    rw [trim]
    rcases shp_kind hsh with rfl | rfl | rfl | rfl | rfl | rfl | rfl
    · simp
    · simp
    · rw [if_pos rfl, lay_pack, seqs_trims subs ih, lay_mk]
      simp
    · rw [if_neg (by decide), if_pos rfl, lay_mk, lay_mk]
      simp [alts_trim subs ih]
    · rw [if_neg (by decide), if_neg (by decide), if_pos rfl]
      obtain ⟨h1, ⟨h0, _⟩, hx⟩ := shp_five hsh
      match subs, h1, ih, hsub with
      | [u], _, ih, hsub =>
        have hu := hsub u (by simp)
        have hl : lay (trim u) = lay u := by funext m a; exact ih u (by simp) m a
        have e : lay (.mk 5 s [u] mn mx) m a = timesOf (lay u) (placesOf u) mn mx m a := by rw [lay_mk]; simp [hd]
        rw [trimH, e]
        unfold timesT
        by_cases hm : mx = 0
        · rw [if_pos hm, lay_empty]
          have hn : mn = 0 := by omega
          subst hm hn
          unfold timesOf
          split
          · rfl
          · simp [rounds]
        rw [if_neg hm]
        by_cases hk : kindT (trim u) = 1
        · rw [if_pos (Or.inl hk), lay_kind1 hk]
          have hr : raw u = 0 := by rw [← trim_raw hu]; exact raw_one (trim_plc hu) hk
          unfold timesOf
          rw [if_pos (by rw [places_raw hu, hr]; simp)]
        have hp : placesOf u ≠ 1 := by
          have := trim_lays _ u (Nat.le_refl _) hu hk
          rw [places_raw hu]
          omega
        by_cases h11 : mn = 1 ∧ mx = 1
        · rw [if_pos (Or.inr h11), hl]
          obtain ⟨rfl, rfl⟩ := h11
          unfold timesOf
          rw [if_neg hp]
          simp [rounds]
        · rw [if_neg (by rintro (h | h) <;> contradiction), lay_mk]
          simp only [show ¬ ((5 : Int) = 2 ∨ (5 : Int) = 6 ∨ (5 : Int) = 7) by decide, show ¬ (5 : Int) = 3 by decide, show ¬ (5 : Int) = 4 by decide, if_false, if_true, hd]
          rw [hl, trim_places hu]
    · simp
    · simp
mutual
def tidy : Tn → Bool
  | .mk k _ subs _ _ => (decide (k ≠ 5) || decide (placesOf (hd subs) ≠ 1)) && tidys subs
def tidys : List Tn → Bool
  | [] => true
  | t :: ts => tidy t && tidys ts
end
theorem tidys_iff : ∀ ts : List Tn, tidys ts = true ↔ ∀ t ∈ ts, tidy t = true
  | [] => by simp [tidys]
  | t :: ts => by simp [tidys, tidys_iff ts]
theorem tidy_pack : ∀ ts : List Tn, (∀ t ∈ ts, tidy t = true) → tidy (packT ts) = true
  | [], _ => by
    show tidy emptyT = true
    unfold emptyT
    rw [tidy, tidys]
    simp
  | [t], h => h t (by simp)
  | t :: u :: ts, h => by
    show tidy (.mk 3 Oct.none (t :: u :: ts) 0 0) = true
    rw [tidy, (tidys_iff _).2 h]
    simp
theorem trim_tidy : ∀ (z : Nat) (t : Tn), SizeOf.sizeOf t ≤ z → (plc t).2 = true → tidy (trim t) = true
  | 0, .mk k s subs mn mx, hz, _ => by simp at hz
  | z + 1, .mk k s subs mn mx, hz, h => by
    obtain ⟨hsh, hsub⟩ := plc_subs h
    have ih : ∀ t ∈ subs, tidy (trim t) = true := fun t ht => trim_tidy z t (by
      have := List.sizeOf_lt_of_mem ht
      simp at hz
      omega) (hsub t ht)
    have hleaf : (k = 1 ∨ k = 2 ∨ k = 6 ∨ k = 7) → tidy (.mk k s subs mn mx) = true := fun hk => by
      have hn : subs = [] := List.length_eq_zero_iff.1 (shp_leaf hsh hk)
      subst hn
      rw [tidy, tidys]
      simp
      omega
    rw [trim]
    rcases shp_kind hsh with rfl | rfl | rfl | rfl | rfl | rfl | rfl
    · simpa using hleaf (by decide)
    · simpa using hleaf (by decide)
    · rw [if_pos rfl]
      refine tidy_pack _ (fun u hu => ?_)
      obtain ⟨t, ht, rfl, _⟩ := trims_mem hu
      exact ih t ht
    · rw [if_neg (by decide), if_pos rfl, tidy, (tidys_iff _).2 (fun u hu => ?_)]
      · simp
      · rw [trimA_map] at hu
        obtain ⟨t, ht, rfl⟩ := List.mem_map.1 hu
        exact ih t ht
    · rw [if_neg (by decide), if_neg (by decide), if_pos rfl]
      obtain ⟨h1, ⟨h0, _⟩, hx⟩ := shp_five hsh
      match subs, h1, ih, hsub with
      | [u], _, ih, hsub =>
        have hu := hsub u (by simp)
        rw [trimH]
        unfold timesT
        by_cases hm : mx = 0
        · rw [if_pos hm]; exact tidy_pack [] (by simp)
        rw [if_neg hm]
        by_cases hk : kindT (trim u) = 1 ∨ (mn = 1 ∧ mx = 1)
        · rw [if_pos hk]; exact ih u (by simp)
        · rw [if_neg hk, tidy, tidys, tidys]
          have hp : placesOf (trim u) ≠ 1 := by
            have := trim_lays _ u (Nat.le_refl _) hu (fun e => hk (Or.inl e))
            rw [trim_places hu, places_raw hu]
            omega
          simp [hd, hp, ih u (by simp)]
    · simpa using hleaf (by decide)
    · simpa using hleaf (by decide)
end Go.Proofs.YtmjnobdlgbojoaaGreatDoor
