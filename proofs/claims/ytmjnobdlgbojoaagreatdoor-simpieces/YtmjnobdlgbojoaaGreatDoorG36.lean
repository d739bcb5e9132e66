
import Derived.Test.YtmjnobdlgbojoaaGreatDoorG33
import Derived.Test.YtmjnobdlgbojoaaGreatDoorG34
import Derived.Test.YtmjnobdlgbojoaaGreatDoorG35
import Derived.Test.YtmjnobdlgbojoaaGreatDoorG28
import Derived.Test.YtmjnobdlgbojoaaGreatDoorG31
import Derived.Test.YtmjnobdlgbojoaaGreatDoorG30
import Derived.Test.YtmjnobdlgbojoaaGreatDoorG16
import Derived.Defers
import Derived.Recover
namespace Go.Proofs.YtmjnobdlgbojoaaGreatDoor
open Go.RowKit
attribute [local go_sem ↓] Go.wp_at_zero Go.wp_at_succ
theorem scs_mem {subs : List Tn} {t : Tn} (h : t ∈ subs) : sc t + 10 ≤ sc.scs subs := by
  induction subs with
  | nil => cases h
  | cons u us ih =>
    rw [sc.scs]
    rcases List.mem_cons.1 h with rfl | h
    · omega
    · have := ih h; omega
theorem lends_any {w0 : World} {W : Nat} {line : ByteArray} (hW : w0.heap.size ≤ W) (hl9 : line.size ≤ 8) {t : Tn} {x : Nd} (h : InAt w0 t x) : (plc t).2 = true → sc t ≤ 1000000000 → EndsV w0 W line t x := by
  induction h with
  | mk k s subs mn mx a n c vs hn hl hm hr hin ih =>
    intro hp hsc
    obtain ⟨hsh, hsub⟩ := plc_subs hp
    have hsc2 := hsc
    rw [sc_mk] at hsc2
    have hs : ∀ (i : Nat) (t : Tn) (v : Nd), subs[i]? = some t → vs[i]? = some v → EndsV w0 W line t v := fun i t v ht hv => ih i t v ht hv (hsub t (List.mem_of_getElem? ht)) (by have := scs_mem (List.mem_of_getElem? ht); omega)
    rcases shp_kind hsh with rfl | rfl | rfl | rfl | rfl | rfl | rfl
    · exact lends_1 hW hl9
    · exact lends_2 hW hl9
    · exact lends_3 hW hl9 hn hl hm hr hs hsc
    · exact lends_4 hW hl9 hn hl hm hr hs hsc
    · obtain ⟨h1, hmn, hmx⟩ := shp_five hsh
      match subs, vs, hn, hl, h1 with
      | [u], [v], hn, hl, _ =>
        have hn : n = 1 := hn
        subst hn
        obtain ⟨M, rfl⟩ : ∃ M : Nat, mn = (M : Nat) := ⟨mn.toNat, by omega⟩
        exact lends_5 hW hl9 hr (hs 0 u v rfl rfl) (by omega) hmx (by simp only [sc.scs] at hsc2; omega)
      | [u], [], hn, hl, _ => simp at hn hl; omega
      | [u], _ :: _ :: _, hn, hl, _ => simp at hn hl; omega
    · exact lends_6 hW hl9
    · exact lends_7 hW hl9
def LTakesPost (w : World) (line : ByteArray) (t : Tn) (e : Ending) (w' : World) : Prop := Below w.heap.size w w' ∧ ∃ yes over : Bool, e = .returned (.tuple #[.bool yes, .bool over]) ∧ (over = false → (yes = true ↔ ∃ i j, j ≤ line.size ∧ Tk line t i j))
set_option maxRecDepth 4000 in
set_option maxHeartbeats 8000000 in
theorem ltakes_any {line : ByteArray} (hl9 : line.size ≤ 8) {t : Tn} {x : Nd} (w : World) (hin : InAt w t x) (hp : (plc t).2 = true) (hsc : sc t ≤ 100000000) : Calls Tryz.prog 26 #[x.val, .string line] w (LTakesPost w line t) := by
  obtain ⟨N, hN⟩ : ∃ N, line.size + 1 = N := ⟨_, rfl⟩
  have hNI : (line.size : Int) + 1 = (N : Nat) := by omega
  have hN9 : N ≤ 9 := by omega
  have HN : Hid (line.size + 1 = N) := hN
  have kk : Below w.heap.size w ((w.alloc (.cells #[.int .i64 x.k, .int .u64 (Oct.word x.s 0 : Nat), .int .u64 (Oct.word x.s 1 : Nat), .int .u64 (Oct.word x.s 2 : Nat), .int .u64 (Oct.word x.s 3 : Nat), .slice x.a x.n x.c, .int .i64 x.mn, .int .i64 x.mx] 30)).alloc (.cells #[.string line, .int .i64 20000] 105)) := ((Below.refl _ _).alloc (Nat.le_refl _) _).alloc (by simp) _
  have hk1 : Below (w.alloc (.cells #[.int .i64 x.k, .int .u64 (Oct.word x.s 0 : Nat), .int .u64 (Oct.word x.s 1 : Nat), .int .u64 (Oct.word x.s 2 : Nat), .int .u64 (Oct.word x.s 3 : Nat), .slice x.a x.n x.c, .int .i64 x.mn, .int .i64 x.mx] 30)).heap.size (w.alloc (.cells #[.int .i64 x.k, .int .u64 (Oct.word x.s 0 : Nat), .int .u64 (Oct.word x.s 1 : Nat), .int .u64 (Oct.word x.s 2 : Nat), .int .u64 (Oct.word x.s 3 : Nat), .slice x.a x.n x.c, .int .i64 x.mn, .int .i64 x.mx] 30)) ((w.alloc (.cells #[.int .i64 x.k, .int .u64 (Oct.word x.s 0 : Nat), .int .u64 (Oct.word x.s 1 : Nat), .int .u64 (Oct.word x.s 2 : Nat), .int .u64 (Oct.word x.s 3 : Nat), .slice x.a x.n x.c, .int .i64 x.mn, .int .i64 x.mx] 30)).alloc (.cells #[.string line, .int .i64 20000] 105)) := (Below.refl _ _).alloc (Nat.le_refl _) _
  have HNA : Hid (NB ((w.alloc (.cells #[.int .i64 x.k, .int .u64 (Oct.word x.s 0 : Nat), .int .u64 (Oct.word x.s 1 : Nat), .int .u64 (Oct.word x.s 2 : Nat), .int .u64 (Oct.word x.s 3 : Nat), .slice x.a x.n x.c, .int .i64 x.mn, .int .i64 x.mx] 30)).alloc (.cells #[.string line, .int .i64 20000] 105)) w.heap.size x) := (nb_new w x).later hk1
  have HWB : Hid (WBk ((w.alloc (.cells #[.int .i64 x.k, .int .u64 (Oct.word x.s 0 : Nat), .int .u64 (Oct.word x.s 1 : Nat), .int .u64 (Oct.word x.s 2 : Nat), .int .u64 (Oct.word x.s 3 : Nat), .slice x.a x.n x.c, .int .i64 x.mn, .int .i64 x.mx] 30)).alloc (.cells #[.string line, .int .i64 20000] 105)) (w.heap.size + 1) line 20000) := by
    have h := heap_alloc_new (w.alloc (.cells #[.int .i64 x.k, .int .u64 (Oct.word x.s 0 : Nat), .int .u64 (Oct.word x.s 1 : Nat), .int .u64 (Oct.word x.s 2 : Nat), .int .u64 (Oct.word x.s 3 : Nat), .slice x.a x.n x.c, .int .i64 x.mn, .int .i64 x.mx] 30)) (.cells #[.string line, .int .i64 20000] 105)
    rw [World.size_alloc] at h
    exact h
  have HB : Hid (Below w.heap.size w ((w.alloc (.cells #[.int .i64 x.k, .int .u64 (Oct.word x.s 0 : Nat), .int .u64 (Oct.word x.s 1 : Nat), .int .u64 (Oct.word x.s 2 : Nat), .int .u64 (Oct.word x.s 3 : Nat), .slice x.a x.n x.c, .int .i64 x.mn, .int .i64 x.mx] 30)).alloc (.cells #[.string line, .int .i64 20000] 105))) := kk
  have HSZ : Hid ((w.alloc (.cells #[.int .i64 x.k, .int .u64 (Oct.word x.s 0 : Nat), .int .u64 (Oct.word x.s 1 : Nat), .int .u64 (Oct.word x.s 2 : Nat), .int .u64 (Oct.word x.s 3 : Nat), .slice x.a x.n x.c, .int .i64 x.mn, .int .i64 x.mx] 30)).heap.size = w.heap.size + 1) := by show _ = _; simp
  have HEV : Hid (EndsV w (w.heap.size + 1) line t x) := lends_any (by omega) hl9 hin hp (by omega)
  have HSC : Hid (sc t ≤ 100000000) := hsc
  obtain ⟨w1, hw1⟩ : ∃ w1, w.alloc (.cells #[.int .i64 x.k, .int .u64 (Oct.word x.s 0 : Nat), .int .u64 (Oct.word x.s 1 : Nat), .int .u64 (Oct.word x.s 2 : Nat), .int .u64 (Oct.word x.s 3 : Nat), .slice x.a x.n x.c, .int .i64 x.mn, .int .i64 x.mx] 30) = w1 := ⟨_, rfl⟩
  rw [hw1] at HNA HWB HB HSZ
  have HW1 : Hid (w.alloc (.cells #[.int .i64 x.k, .int .u64 (Oct.word x.s 0 : Nat), .int .u64 (Oct.word x.s 1 : Nat), .int .u64 (Oct.word x.s 2 : Nat), .int .u64 (Oct.word x.s 3 : Nat), .slice x.a x.n x.c, .int .i64 x.mn, .int .i64 x.mx] 30) = w1) := hw1
  obtain ⟨w2, hw2⟩ : ∃ w2, w1.alloc (.cells #[.string line, .int .i64 20000] 105) = w2 := ⟨_, rfl⟩
  rw [hw2] at HNA HWB HB
  have HW2 : Hid (w1.alloc (.cells #[.string line, .int .i64 20000] 105) = w2) := hw2
  obtain ⟨A, hA⟩ : ∃ A, w.heap.size = A := ⟨_, rfl⟩
  have HAA : Hid (w.heap.size = A) := hA
  rw [hA] at HNA
  obtain ⟨W, hW⟩ : ∃ W, w.heap.size + 1 = W := ⟨_, rfl⟩
  have HWW : Hid (w.heap.size + 1 = W ∧ A < W) := ⟨hW, by omega⟩
  rw [hW] at HWB HEV HSZ
  clear hw1 hw2 hA hW kk hk1 hin hp hsc hN
  obtain ⟨xk, xs, xa, xn, xc, xmn, xmx⟩ := x
  unfold Nd.val
  simp only at HW1 HNA ⊢
  go_enter Tryz.func26, Tryz.ntmps26
  go_upto_region 1 with fail
  rw [HW1.out, HAA.out]
  clear HW1
  go_upto_region 2 with fail
  rw [HW2.out, HSZ.out]
  clear HW2 HSZ
  go_wp2_with fail
  go_loopw [7] (fun q v => ∃ (k : Nat) (lk : Int), q = .int .i64 (k : Nat) ∧ k ≤ N ∧ Hid (NB v A ⟨xk, xs, xa, xn, xc, xmn, xmx⟩) ∧ Hid (WBk v W line lk) ∧ Hid (Below w.heap.size w v) ∧ Hid (lk ≤ 20000 ∧ -((sc t : Int) + k) ≤ lk) ∧ Hid (0 ≤ lk → ∀ i, i < k → ∀ j, ¬ Tk line t i j)) (fun q _ => N - (intOf q).toNat)
  case atStart => exact ⟨0, 20000, rfl, Nat.zero_le _, HNA, HWB, HB, ⟨by omega, by omega⟩, fun _ i h => by omega⟩
  case round =>
    clear HNA HWB HB
    obtain ⟨k, lk, rfl, hk, HNk, HWk, HBk, HLk, HIk⟩ := hrel
    by_cases hlt : k < N
    · have hlt' : (k : Int) ≤ (line.size : Int) := by omega
      obtain ⟨y0, y1, y2, y3, y4, y5, y6, y7⟩ := HNk.out.cells
      simp only at y0 y1 y2 y3 y4 y5 y6 y7
      have HEC : Hid (Calls Tryz.prog 55 #[.pointer (some ⟨W, 0, none⟩), Nd.val ⟨xk, xs, xa, xn, xc, xmn, xmx⟩, .int .i64 (k : Nat)] wr (EndsPost wr W N line t k lk)) := by
        have h := HEV.out wr k lk HBk.out HWk.out (by omega) (by have := HLk.out; have := HSC.out; omega) HLk.out.1
        rw [HN.out] at h
        exact h
      unfold Nd.val at HEC
      simp only at HEC
      go_wp2_with fail
      refine HEC.out.mono ?_
      rintro e v3 ⟨g3, c3, b3, l3, rfl, hr3, hg3, hw3, hl3, hlo3, hneg3, hex3⟩
      have hWA := HWW.out
      have HR3 : Hid (RowB v3 wr.heap.size (.slice (some ⟨g3, 0, none⟩) N c3) b3) := hr3
      have HN3 : Hid (NB v3 A ⟨xk, xs, xa, xn, xc, xmn, xmx⟩) := (hg3.block A HNk.out.lt (fun e => by cases e; omega)).trans HNk.out
      have HW3 : Hid (WBk v3 W line l3) := hw3
      have HB3 : Hid (Below w.heap.size w v3) := HBk.out.trans (gro_below hg3 (by omega) HBk.out.size)
      have HL3 : Hid (l3 ≤ 20000 ∧ -((sc t : Int) + (k + 1 : Nat)) ≤ l3 ∧ l3 < lk) := by
        have h1 := HLk.out
        refine ⟨by omega, ?_, hl3⟩
        by_cases h0 : 0 ≤ lk
        · have := hlo3 h0; omega
        · have := hneg3 (by omega); omega
      have HX3 : Hid (0 ≤ l3 → ∀ j, bt b3 j ↔ Tk line t k j) := hex3
      clear hr3 hg3 hw3 hl3 hlo3 hneg3 hex3 hWA HEC HNk HWk HBk HLk y0 y1 y2 y3 y4 y5 y6 y7
      go_wp2_with fail
      go_loopw [9] (fun q v => ∃ p : Nat, q = .int .i64 (p : Nat) ∧ p ≤ N ∧ v = v3 ∧ Hid (0 ≤ l3 → ∀ j, j < p → ¬ bt b3 j)) (fun q _ => N - (intOf q).toNat)
      case atStart => exact ⟨0, rfl, Nat.zero_le _, rfl, fun _ j h => by omega⟩
      case round =>
        obtain ⟨p, rfl, hp, hv, HPk⟩ := hrel
        subst hv
        have hbl : b3.length = N := HR3.out.lt.2.1.symm
        obtain ⟨k0, k1⟩ := HW3.out.cells
        by_cases hpl : p < N
        · have hpl' : (p : Int) < (N : Int) := by omega
          obtain ⟨b, hb⟩ : ∃ b, b3[p]? = some b := ⟨_, List.getElem?_eq_getElem (by omega)⟩
          obtain ⟨cb, _⟩ := HR3.out.cell hb
          have HBP : Hid (b3[p]? = some b) := hb
          clear hb hbl
          cases b with
          | false =>
            have HP2 : Hid (0 ≤ l3 → ∀ j, j < p + 1 → ¬ bt b3 j) := fun h0 j hj => by
              by_cases e : j = p
              · subst e
                rw [bt_of HBP.out]
                decide
              · exact HPk.out h0 j (by omega)
            go_wp2
            go_roundw
            case rel => exact ⟨p + 1, by go_num, by omega, trivial, HP2⟩
            case measure => simp [intOf]; omega
          | true =>
            by_cases h0 : 0 ≤ l3
            · have hd0 : decide (0 ≤ l3) = true := decide_eq_true h0
              have HT : Hid (∃ i j, j ≤ line.size ∧ Tk line t i j) := ⟨k, p, by omega, (HX3.out h0 p).1 ((bt_of HBP.out).2 rfl)⟩
              go_wp2
              go_ret2
              exact ⟨HB3.out, true, false, rfl, fun _ => ⟨fun _ => HT.out, fun _ => rfl⟩⟩
            · have hd0 : decide (0 ≤ l3) = false := decide_eq_false h0
              have HP2 : Hid (0 ≤ l3 → ∀ j, j < p + 1 → ¬ bt b3 j) := fun h => absurd h h0
              go_wp2
              go_roundw
              case rel => exact ⟨p + 1, by go_num, by omega, trivial, HP2⟩
              case measure => simp [intOf]; omega
        · have hpl' : ¬ (p : Int) < (N : Int) := by omega
          have HI2 : Hid (0 ≤ l3 → ∀ i, i < k + 1 → ∀ j, ¬ Tk line t i j) := fun h0 i hi j ht => by
            by_cases e : i = k
            · subst e
              have h1 := (HX3.out h0 j).2 ht
              exact HPk.out h0 j (by have := bt_lt h1; omega) h1
            · exact HIk.out (by have := HL3.out; omega) i (by omega) j ht
          have HL4 : Hid (l3 ≤ 20000 ∧ -((sc t : Int) + (k + 1 : Nat)) ≤ l3) := ⟨HL3.out.1, HL3.out.2.1⟩
          clear hbl k0 k1
          go_wp2
          go_roundw
          case rel => exact ⟨k + 1, l3, by go_num, by omega, HN3, HW3, HB3, HL4, HI2⟩
          case measure => simp [intOf]; omega
    · have hlt' : ¬ (k : Int) ≤ (line.size : Int) := by omega
      obtain ⟨k0, k1⟩ := HWk.out.cells
      have HEN : Hid (∀ n, LTakesPost w line t (.returned (.tuple #[.bool false, .bool (decide (lk < 0))])) (wr.drewN n)) := fun n => by
        refine ⟨HBk.out.trans ⟨rfl, rfl, rfl, Nat.le_refl _, fun _ _ => rfl⟩, false, _, rfl, fun ho => ⟨fun h => (by cases h), fun ⟨i, j, hj, ht⟩ => ?_⟩⟩
        have h0 : ¬ lk < 0 := of_decide_eq_false ho
        exact absurd ht (HIk.out (by omega) i (by have := tk_up t i j ht; have := HN.out; omega) j)
      go_upto_region 11 with fail
      go_quiet (fail)
      go_wp2
      go_ret2
      exact HEN.out _
end Go.Proofs.YtmjnobdlgbojoaaGreatDoor


namespace Go.Proofs.YtmjnobdlgbojoaaGreatDoor
open Go.RowKit
theorem flatM_length (xs : List Nf) : (flatM xs).length = 3 * xs.length := by
  induction xs with
  | nil => rfl
  | cons x r ih => simp only [flatM, List.flatMap_cons, List.length_append, List.length_cons] at ih ⊢; rw [ih]; simp [Nf.cells]; omega
theorem flatM_append (a b : List Nf) : flatM (a ++ b) = flatM a ++ flatM b := by simp [flatM]
theorem flatM_one (xs : List Nf) : ∀ u ∈ flatM xs, u.oneCell' = true := by
  intro u hu
  obtain ⟨x, _, hx⟩ := List.mem_flatMap.1 hu
  simp only [Nf.cells, List.mem_cons, List.not_mem_nil, or_false] at hx
  rcases hx with rfl | rfl | rfl <;> rfl
def RowM (w : World) (base : Nat) (V : Value) (xs : List Nf) : Prop := w.ownsRow base 37 3 V xs.length (flatM xs)
theorem infoM : (Tryz.prog.info? 37).map (fun i => (i.zero, i.size, i.bytes)) = some (some (.agg #[.int .i64 0, .slice none 0 0, .slice none 0 0]), 3, 56) := by kernel_rfl
theorem rowM_nil (w : World) (base : Nat) : RowM w base (.slice none 0 0) [] := World.ownsRow_nil w base 37 3
section
variable {w w' : World} {base : Nat} {V : Value} {xs : List Nf}
theorem RowM.ty (h : RowM w base V xs) : ∀ b, V.ownBlock = some b → base ≤ b ∧ TyB w 37 b := by
  intro b hb
  rcases h.2 with ⟨rfl, _⟩ | ⟨g, cap, cur, rfl, hbg, hg, _⟩
  · simp [Value.ownBlock] at hb
  · simp [Value.ownBlock] at hb
    subst hb
    exact ⟨hbg, ⟨_, _, hg⟩⟩
theorem RowM.later (h : RowM w base V xs) (hb : Below w.heap.size w w') : RowM w' base V xs := by
  refine ⟨h.1, ?_⟩
  rcases h.2 with h6 | ⟨g, cap, cur, rfl, hBg, hg, rest⟩
  · exact Or.inl h6
  · exact Or.inr ⟨g, cap, cur, rfl, hBg, (hb.block g (Array.getElem?_eq_some_iff.1 hg).1).trans hg, rest⟩
theorem RowM.form (h : RowM w base V xs) : ∃ a c, V = .slice a xs.length c ∧ xs.length ≤ c ∧ c ≤ maxLen ∧ LAt w a xs := by
  rcases h.2 with ⟨hv, hn⟩ | ⟨g, cap, cur, hv, hbg, hg, h1, h2, h3, h4⟩
  · exact ⟨none, 0, by rw [hv, hn], by omega, by decide, Or.inl (List.length_eq_zero_iff.1 hn)⟩
  · refine ⟨_, _, hv, h1, h2, Or.inr ⟨g, 0, rfl, fun j v hj => ?_⟩⟩
    have hlt := (List.getElem?_eq_some_iff.1 hj).1
    rw [flatM_length] at hlt
    rw [← h4, List.getElem?_take_of_lt (by omega)] at hj
    simp only [World.cell?, hg, Nat.zero_add]
    simpa using hj
end
theorem mach_bounds (t : Tn) (rule : Int) : (buildOf t rule).1.es.length ≤ 4096 ∧ (buildOf t rule).1.rs.length ≤ 4096 := by
  unfold buildOf
  split
  · exact ⟨Nat.zero_le _, Nat.zero_le _⟩
  split
  · exact ⟨Nat.zero_le _, Nat.zero_le _⟩
  split
  · exact ⟨Nat.zero_le _, Nat.zero_le _⟩
  · rename_i h1 h2 _
    have h3 := lay_bounds (t := t) (by simpa using h1) h2
    unfold mach
    simp only [List.length_set, List.length_replicate]
    omega
end Go.Proofs.YtmjnobdlgbojoaaGreatDoor


namespace Go.Proofs.YtmjnobdlgbojoaaGreatDoor
open Go.RowKit
structure Wk (line : ByteArray) (M : Ma) (R : Nat) : Prop where
  s : M.S = (M.rs.length : Nat)
  one : 1 ≤ M.rs.length
  inr : InR M.es M.rs.length
  w : Walks M M.rs.length line 0 (List.replicate M.rs.length false) 0 R
theorem Wk.add {line : ByteArray} {o M : Ma} {Ro Rm : Nat} (h : Wk line o Ro) (h2 : Wk line M Rm) : Wk line (addM o M) (Ro ||| Rm) := by
  have e : (addM o M).rs.length = o.rs.length + M.rs.length := by simp [addM]
  refine ⟨?_, by have := h.one; omega, ?_, ?_⟩
  · rw [e]
    show o.S + M.S = _
    rw [h.s, h2.s]
    omega
  · rw [e, add_es h.s]
    intro y hy
    have h1 := h.one
    rcases List.mem_append.1 hy with hy | hy
    · rcases List.mem_append.1 hy with hy | hy
      · have := h.inr y hy
        omega
      · simp at hy
        subst hy
        have := h2.one
        simp only
        omega
    · obtain ⟨z, hz, rfl⟩ := List.mem_map.1 hy
      have := h2.inr z hz
      simp only [shiftE]
      omega
  · have := add_walks h.s rfl h.one h2.one h.inr h2.inr h.w (List.replicate M.rs.length false) 0 Rm (by simp) (by simp) h2.w
    rw [List.replicate_append_replicate] at this
    rw [e]
    exact this
theorem Wk.unions {line : ByteArray} : ∀ (Ms : List Ma) (Rs : List Nat) (o : Ma) (Ro : Nat), Ms.length = Rs.length → (∀ (i : Nat) (M : Ma) (R : Nat), Ms[i]? = some M → Rs[i]? = some R → Wk line M R) → Wk line o Ro → Wk line (unions Ms o) (Rs.foldl (· ||| ·) Ro)
  | [], [], _, _, _, _, h => by rw [Go.Proofs.YtmjnobdlgbojoaaGreatDoor.unions]; exact h
  | M :: Ms, R :: Rs, o, Ro, hl, hw, h => by
    rw [Go.Proofs.YtmjnobdlgbojoaaGreatDoor.unions, List.foldl_cons]
    exact Wk.unions Ms Rs (addM o M) (Ro ||| R) (by simpa using hl) (fun i M' R' h1 h2 => hw (i + 1) M' R' (by simpa using h1) (by simpa using h2)) (h.add (hw 0 M R rfl rfl))
theorem clo_one (b e c : Bool) : Clo [] b e ([c].set 0 true) [true] :=
  ⟨⟨rfl, fun i hi => hi⟩, (fun x hx => by cases hx), fun k h1 _ => h1⟩
theorem one_walks (line : ByteArray) : ∀ (d i : Nat), line.size - i = d → i ≤ line.size → ∀ c : Bool, Walks ⟨1, [], [0]⟩ 1 line i [c] 0 0
  | 0, i, hd, hi, c => by
    have h := Walks.last (M := ⟨1, [], [0]⟩) (S := 1) (line := line) i [c] [true] 0 (by omega) (clo_one _ _ c)
    exact h
  | d + 1, i, hd, hi, c => by
    refine .step i [c] [true] 0 0 (by omega) (clo_one _ _ c) ?_
    exact one_walks line d (i + 1) (by omega) (by omega) false
theorem wk_one (line : ByteArray) : Wk line ⟨1, [], [0]⟩ 0 := ⟨rfl, by decide, (fun y hy => by cases hy), one_walks line line.size 0 (by omega) (Nat.zero_le _) false⟩
end Go.Proofs.YtmjnobdlgbojoaaGreatDoor


namespace Go.Proofs.YtmjnobdlgbojoaaGreatDoor
open Go.RowKit
attribute [local go_sem ↓] Go.wp_at_zero Go.wp_at_succ
theorem eq20_nil (w : World) : (binOp .eql 20 .nilIface .nilIface).run Tryz.prog w = .ok (.bool true) w := by kernel_rfl
theorem eq20_some (v : Value) (w : World) : (binOp .eql 20 (.iface 88 v) .nilIface).run Tryz.prog w = .ok (.bool false) w := by kernel_rfl
theorem catch_idle (p q r : Addr) (w : World) :
    CallsD Tryz.prog 39 #[.pointer (some p), .pointer (some q), .pointer (some r)] .returning w fun e u' w' => e = .returned (.tuple #[]) ∧ u' = .returning ∧ w' = w := by
  have q20 := eq20_nil
  refine callsD_of_wpS Tryz.func39 rfl fun c₀ cs hu => ?_
  apply wpS_seq
  apply wpS_region
  simp [wpOpsS, go_sem, recoverD, hu, Tryz.ntmps39, Exit.thenS]
  apply wpS_seq
  apply wpS_seq
  apply wpS_region
  simp [wpOpsS, go_sem, Exit.thenS, q20]
  refine wpS_cond (t := true) (by simp [Act.eval, Array.replicate]) ?_
  simp only [if_true]
  refine wpS_of_wp (wp_ret ?_)
  cases c₀
  simp_all [bodyPostS, results, Tryz.results39, Exit.thenS]
end Go.Proofs.YtmjnobdlgbojoaaGreatDoor


namespace Go.Proofs.YtmjnobdlgbojoaaGreatDoor
open Go.RowKit
def IB (w : World) (A : Nat) (t : TypeId) (v : Int) : Prop := w.heap[A]? = some (.cells #[.int .i64 v] t (0, 0))
theorem IB.lt {w : World} {A : Nat} {t : TypeId} {v : Int} (h : IB w A t v) : A < w.heap.size := (Array.getElem?_eq_some_iff.1 h).1
theorem IB.later {w w' : World} {A : Nat} {t : TypeId} {v : Int} (h : IB w A t v) (hb : Below w.heap.size w w') : IB w' A t v := (hb.block A h.lt).trans h
theorem IB.grown {w w' : World} {A : Nat} {t : TypeId} {v : Int} {r : Option Nat} (h : IB w A t v) (hg : w.grownBy w' r) (hne : some A ≠ r) : IB w' A t v := (hg.block A h.lt hne).trans h
theorem IB.cell {w : World} {A : Nat} {t : TypeId} {v : Int} (h : IB w A t v) : w.cell? ⟨A, 0, none⟩ = some (.int .i64 v) := by
  unfold IB at h
  simp [World.cell?, h]
theorem IB.frozen {w : World} {A : Nat} {t : TypeId} {v : Int} (h : IB w A t v) : w.frozen? ⟨A, 0, none⟩ = false := by
  unfold IB at h
  simp [World.frozen?, h]
theorem IB.put {w : World} {A : Nat} {t : TypeId} {v : Int} (h : IB w A t v) (x : Int) : IB (w.setCell ⟨A, 0, none⟩ (.int .i64 x)) A t x := by
  have := heap_set h 0 (.int .i64 x)
  unfold IB
  rw [this]
  rfl
theorem IB.other {w : World} {A B : Nat} {t : TypeId} {v : Int} (h : IB w A t v) (hne : A ≠ B) (j : Nat) (x : Value) : IB (w.setCell ⟨B, j, none⟩ x) A t v := by
  unfold IB at h ⊢
  rw [Below.heap_setCell w ⟨B, j, none⟩ x A hne]
  exact h
theorem IB.put8 {w : World} {A B : Nat} {t : TypeId} {v : Int} (h : IB w A t v) (hne : A ≠ B) (x : Nd) : IB (put8 w B x) A t v := by
  unfold IB at h ⊢
  rw [heap_put8 w B x A hne]
  exact h
def FB (w : World) (A i e : Nat) : Prop := w.heap[A]? = some (.cells #[.int .i64 (i : Nat), .int .i64 (e : Nat)] 88 (0, 0))
theorem FB.other {w : World} {A B i e : Nat} (h : FB w A i e) (hne : A ≠ B) (j : Nat) (x : Value) : FB (w.setCell ⟨B, j, none⟩ x) A i e := by
  unfold FB at h ⊢
  rw [Below.heap_setCell w ⟨B, j, none⟩ x A hne]
  exact h
theorem FB.put8 {w : World} {A B i e : Nat} (h : FB w A i e) (hne : A ≠ B) (x : Nd) : FB (put8 w B x) A i e := by
  unfold FB at h ⊢
  rw [heap_put8 w B x A hne]
  exact h
theorem FB.cells {w : World} {A i e : Nat} (h : FB w A i e) : w.cell? ⟨A, 0, none⟩ = some (.int .i64 (i : Nat)) ∧ w.cell? ⟨A, 1, none⟩ = some (.int .i64 (e : Nat)) := by
  unfold FB at h
  simp [World.cell?, h]
structure In5 (W : World) (n TB P E F i e : Nat) (x : Nd) (o1 o2 : Int) (act : Act) (L : Nat → Bool) (a : Act) (u : World) : Prop where
  sz : a.tmps.size = 22
  df : a.defers = act.defers
  fr : ∀ k, k < 17 → a.tmps[k]? = act.tmps[k]?
  v0 : L 0 = true → T a 17 = .agg #[.int .i64 0, .int .u64 0, .int .u64 0, .int .u64 0, .int .u64 0, .slice none 0 0, .int .i64 0, .int .i64 0]
  v1 : L 1 = true → T a 18 = .pointer (some ⟨F, 0, none⟩)
  v2 : L 2 = true → T a 19 = .int .i64 (i : Nat)
  v3 : L 3 = true → T a 20 = .pointer (some ⟨F, 1, none⟩)
  v4 : L 4 = true → T a 21 = .int .i64 (e : Nat)
  fb : FB u F i e
  nb : NB u TB (if L 5 then zeroNd else x)
  pb : IB u P 3 (if L 6 then (i : Int) else o1)
  eb : IB u E 31 (if L 7 then (e : Int) else o2)
  be : Below n W u
theorem put_fr {act a : Act} (h : ∀ k, k < 17 → a.tmps[k]? = act.tmps[k]?) {d : Nat} (hd : 17 ≤ d) (v : Value) : ∀ k, k < 17 → (a.put (some d) v).tmps[k]? = act.tmps[k]? := fun k hk => by
  simp only [Act.put]
  rw [Array.getElem?_setIfInBounds_ne (by omega)]
  exact h k hk
set_option maxRecDepth 100000 in
set_option maxHeartbeats 2000000 in
theorem reg5 {act : Act} {n TB P E F i e : Nat} {x : Nd} {o1 o2 : Int} {W : World} {Q : Exit → Act → World → Prop}
    (hT0 : T act 0 = .pointer (some ⟨TB, 0, none⟩)) (hT1 : T act 1 = .pointer (some ⟨P, 0, none⟩)) (hT2 : T act 2 = .pointer (some ⟨E, 0, none⟩)) (hT4 : T act 4 = .pointer (some ⟨F, 0, none⟩)) (hsz : act.tmps.size = 22)
    (h1 : TB ≠ P) (h2 : TB ≠ E) (h3 : P ≠ E) (f1 : F ≠ TB) (f2 : F ≠ P) (f3 : F ≠ E) (k1 : n ≤ TB) (k2 : n ≤ P) (k3 : n ≤ E)
    (hF : FB W F i e) (hN : NB W TB x) (hP : IB W P 3 o1) (hE : IB W E 31 o2)
    (K : ∀ a' W', a'.defers = act.defers → NB W' TB zeroNd → IB W' P 3 i → IB W' E 31 e → Below n W W' → Q .normal a' W') : (Code.region 5 (opsOf Tryz.f39 5) true).wp Tryz.prog Q act W := by
  refine wp_region_inv (by kernel_rfl) (In5 W n TB P E F i e x o1 o2 act) ?wf ?step ?fin ?zero
  case zero =>
    intro L hL
    have l0 := hL 0 (by decide)
    have l1 := hL 1 (by decide)
    have l2 := hL 2 (by decide)
    have l3 := hL 3 (by decide)
    have l4 := hL 4 (by decide)
    have l5 := hL 5 (by decide)
    have l6 := hL 6 (by decide)
    have l7 := hL 7 (by decide)
    exact ⟨hsz, rfl, fun _ _ => rfl, by simp [l0], by simp [l1], by simp [l2], by simp [l3], by simp [l4], hF, by rw [l5]; exact hN, by rw [l6]; exact hP, by rw [l7]; exact hE, (Below.refl _ _).drew⟩
  case fin =>
    intro L a u hL hI
    have b1 := hI.nb
    have b2 := hI.pb
    have b3 := hI.eb
    rw [hL 5 (by decide)] at b1
    rw [hL 6 (by decide)] at b2
    rw [hL 7 (by decide)] at b3
    exact K a u hI.df b1 b2 b3 hI.be
  case wf =>
    have h : AllFrom (fun i o => ∀ e ∈ o.after, Region.binds .any e = true → e.on < i) 0 (opsOf Tryz.f39 5).toList := by
      refine ⟨by simp, by simp [Region.binds], by simp [Region.binds], by simp [Region.binds], by simp [Region.binds], by simp [Region.binds], by simp [Region.binds], by simp [Region.binds], trivial⟩
    intro i o e ho he hb
    have := allFrom_at h i o (by simpa using ho) e he hb
    omega
  case step =>
    have h : AllFrom (fun k p => p.guard = none ∧ ∀ L a u, In5 W n TB P E F i e x o1 o2 act L a u → L k = false → (∀ e ∈ p.after, Region.binds .any e = true → L e.on = true) → p.wp Tryz.prog a u (fun a' w' => In5 W n TB P E F i e x o1 o2 act (more L k) a' w') Q) 0 (opsOf Tryz.f39 5).toList := by
      refine ⟨⟨rfl, fun L a u hI hk hE => ?s0⟩, ⟨rfl, fun L a u hI hk hE => ?s1⟩, ⟨rfl, fun L a u hI hk hE => ?s2⟩, ⟨rfl, fun L a u hI hk hE => ?s3⟩, ⟨rfl, fun L a u hI hk hE => ?s4⟩, ⟨rfl, fun L a u hI hk hE => ?s5⟩, ⟨rfl, fun L a u hI hk hE => ?s6⟩, ⟨rfl, fun L a u hI hk hE => ?s7⟩, trivial⟩
      case s0 =>
        refine ob_plain (v := .agg #[.int .i64 0, .int .u64 0, .int .u64 0, .int .u64 0, .int .u64 0, .slice none 0 0, .int .i64 0, .int .i64 0]) (w' := u) ?_ ?_
        · simp [execOp, Act.eval, go_sem]
        · exact ⟨by simpa [Act.put] using hI.sz, hI.df, put_fr hI.fr (by decide) _, fun _ => T_put (by rw [hI.sz]; decide), fun h => (T_put' (by decide)).trans (hI.v1 (by simpa [more] using h)), fun h => (T_put' (by decide)).trans (hI.v2 (by simpa [more] using h)), fun h => (T_put' (by decide)).trans (hI.v3 (by simpa [more] using h)), fun h => (T_put' (by decide)).trans (hI.v4 (by simpa [more] using h)), hI.fb, by simpa [more] using hI.nb, by simpa [more] using hI.pb, by simpa [more] using hI.eb, hI.be⟩
      case s1 =>
        have hx := (show T a 4 = T act 4 by unfold T; rw [hI.fr 4 (by decide)]).trans hT4
        refine ob_plain (v := .pointer (some ⟨F, 0, none⟩)) (w' := u) ?_ ?_
        · unfold T at hx
          simp [execOp, Act.eval, hx, go_sem]
        · exact ⟨by simpa [Act.put] using hI.sz, hI.df, put_fr hI.fr (by decide) _, fun h => (T_put' (by decide)).trans (hI.v0 (by simpa [more] using h)), fun _ => T_put (by rw [hI.sz]; decide), fun h => (T_put' (by decide)).trans (hI.v2 (by simpa [more] using h)), fun h => (T_put' (by decide)).trans (hI.v3 (by simpa [more] using h)), fun h => (T_put' (by decide)).trans (hI.v4 (by simpa [more] using h)), hI.fb, by simpa [more] using hI.nb, by simpa [more] using hI.pb, by simpa [more] using hI.eb, hI.be⟩
      case s2 =>
        have hx := hI.v1 (hE ⟨1, .data⟩ (by simp) rfl)
        have c0 := hI.fb.cells.1
        refine ob_plain (v := .int .i64 (i : Nat)) (w' := u) ?_ ?_
        · unfold T at hx
          simp [execOp, Act.eval, hx, go_sem, c0]
        · exact ⟨by simpa [Act.put] using hI.sz, hI.df, put_fr hI.fr (by decide) _, fun h => (T_put' (by decide)).trans (hI.v0 (by simpa [more] using h)), fun h => (T_put' (by decide)).trans (hI.v1 (by simpa [more] using h)), fun _ => T_put (by rw [hI.sz]; decide), fun h => (T_put' (by decide)).trans (hI.v3 (by simpa [more] using h)), fun h => (T_put' (by decide)).trans (hI.v4 (by simpa [more] using h)), hI.fb, by simpa [more] using hI.nb, by simpa [more] using hI.pb, by simpa [more] using hI.eb, hI.be⟩
      case s3 =>
        have hx := (show T a 4 = T act 4 by unfold T; rw [hI.fr 4 (by decide)]).trans hT4
        refine ob_plain (v := .pointer (some ⟨F, 1, none⟩)) (w' := u) ?_ ?_
        · unfold T at hx
          simp [execOp, Act.eval, hx, go_sem]
        · exact ⟨by simpa [Act.put] using hI.sz, hI.df, put_fr hI.fr (by decide) _, fun h => (T_put' (by decide)).trans (hI.v0 (by simpa [more] using h)), fun h => (T_put' (by decide)).trans (hI.v1 (by simpa [more] using h)), fun h => (T_put' (by decide)).trans (hI.v2 (by simpa [more] using h)), fun _ => T_put (by rw [hI.sz]; decide), fun h => (T_put' (by decide)).trans (hI.v4 (by simpa [more] using h)), hI.fb, by simpa [more] using hI.nb, by simpa [more] using hI.pb, by simpa [more] using hI.eb, hI.be⟩
      case s4 =>
        have hx := hI.v3 (hE ⟨3, .data⟩ (by simp) rfl)
        have c0 := hI.fb.cells.2
        refine ob_plain (v := .int .i64 (e : Nat)) (w' := u) ?_ ?_
        · unfold T at hx
          simp [execOp, Act.eval, hx, go_sem, c0]
        · exact ⟨by simpa [Act.put] using hI.sz, hI.df, put_fr hI.fr (by decide) _, fun h => (T_put' (by decide)).trans (hI.v0 (by simpa [more] using h)), fun h => (T_put' (by decide)).trans (hI.v1 (by simpa [more] using h)), fun h => (T_put' (by decide)).trans (hI.v2 (by simpa [more] using h)), fun h => (T_put' (by decide)).trans (hI.v3 (by simpa [more] using h)), fun _ => T_put (by rw [hI.sz]; decide), hI.fb, by simpa [more] using hI.nb, by simpa [more] using hI.pb, by simpa [more] using hI.eb, hI.be⟩
      case s5 =>
        have hv := hI.v0 (hE ⟨0, .data⟩ (by simp) rfl)
        have hp := (show T a 0 = T act 0 by unfold T; rw [hI.fr 0 (by decide)]).trans hT0
        have hk : L 5 = false := hk
        have hnb := hI.nb
        rw [hk] at hnb
        obtain ⟨t0, t1, t2, t3, t4, t5, t6, t7⟩ := hnb.cells
        have y0 := hnb.frozen 0
        have y1 := hnb.frozen 1
        have y2 := hnb.frozen 2
        have y3 := hnb.frozen 3
        have y4 := hnb.frozen 4
        have y5 := hnb.frozen 5
        have y6 := hnb.frozen 6
        have y7 := hnb.frozen 7
        refine ob_skip (w' := put8z u TB 0 none 0 0 0 0) ?_ ?_
        · unfold T at hv hp
          simp [execOp, Act.eval, hv, hp, go_sem, t0, t1, t2, t3, t4, t5, t6, t7, y0, y1, y2, y3, y4, y5, y6, y7, put8z]
        · rw [put8z_eq]
          exact ⟨hI.sz, hI.df, hI.fr, fun h => hI.v0 (by simpa [more] using h), fun h => hI.v1 (by simpa [more] using h), fun h => hI.v2 (by simpa [more] using h), fun h => hI.v3 (by simpa [more] using h), fun h => hI.v4 (by simpa [more] using h), hI.fb.put8 f1 _, by simp only [more, if_true]; exact hnb.put8 _, by simpa [more] using hI.pb.put8 h1.symm _, by simpa [more] using hI.eb.put8 h2.symm _, below_put8 hI.be k1 _⟩
      case s6 =>
        have hv := hI.v2 (hE ⟨2, .data⟩ (by simp) rfl)
        have hp := (show T a 1 = T act 1 by unfold T; rw [hI.fr 1 (by decide)]).trans hT1
        have t0 := hI.pb.cell
        have y0 := hI.pb.frozen
        refine ob_skip (w' := u.setCell ⟨P, 0, none⟩ (.int .i64 (i : Nat))) ?_ ?_
        · unfold T at hv hp
          simp [execOp, Act.eval, hv, hp, go_sem, t0, y0]
        · exact ⟨hI.sz, hI.df, hI.fr, fun h => hI.v0 (by simpa [more] using h), fun h => hI.v1 (by simpa [more] using h), fun h => hI.v2 (by simpa [more] using h), fun h => hI.v3 (by simpa [more] using h), fun h => hI.v4 (by simpa [more] using h), hI.fb.other f2 _ _, by simpa [more] using hI.nb.set h1 0 (.int .i64 (i : Nat)), by simpa [more] using hI.pb.put (i : Nat), by simpa [more] using hI.eb.other h3.symm 0 (.int .i64 (i : Nat)), hI.be.setCell (p := ⟨P, 0, none⟩) k2 _⟩
      case s7 =>
        have hv := hI.v4 (hE ⟨4, .data⟩ (by simp) rfl)
        have hp := (show T a 2 = T act 2 by unfold T; rw [hI.fr 2 (by decide)]).trans hT2
        have t0 := hI.eb.cell
        have y0 := hI.eb.frozen
        refine ob_skip (w' := u.setCell ⟨E, 0, none⟩ (.int .i64 (e : Nat))) ?_ ?_
        · unfold T at hv hp
          simp [execOp, Act.eval, hv, hp, go_sem, t0, y0]
        · exact ⟨hI.sz, hI.df, hI.fr, fun h => hI.v0 (by simpa [more] using h), fun h => hI.v1 (by simpa [more] using h), fun h => hI.v2 (by simpa [more] using h), fun h => hI.v3 (by simpa [more] using h), fun h => hI.v4 (by simpa [more] using h), hI.fb.other f3 _ _, by simpa [more] using hI.nb.set h2 0 (.int .i64 (e : Nat)), by simpa [more] using hI.pb.other h3 0 (.int .i64 (e : Nat)), by simpa [more] using hI.eb.put (e : Nat), hI.be.setCell (p := ⟨E, 0, none⟩) k3 _⟩
    intro k p hp
    have := allFrom_at h k p (by simpa using hp)
    rwa [Nat.zero_add] at this
end Go.Proofs.YtmjnobdlgbojoaaGreatDoor


namespace Go.Proofs.YtmjnobdlgbojoaaGreatDoor
open Go.RowKit
theorem ta61 (v : Value) (w : World) : (Instr.typeAssert (.iface 88 v) 20 88 true).run Tryz.prog w = .ok (.tuple #[v, .bool true]) w := by kernel_rfl
theorem fb_new (w : World) (i e : Nat) : FB (w.alloc (.cells #[.int .i64 (i : Nat), .int .i64 (e : Nat)] 88)) w.heap.size i e := heap_alloc_new w _
set_option maxRecDepth 4000 in
set_option maxHeartbeats 4000000 in
theorem catch_panicking (TB P E : Nat) (i e : Nat) (x : Nd) (o1 o2 : Int) (w : World) (hT : NB w TB x) (hP : IB w P 3 o1) (hE : IB w E 31 o2) (h1 : TB ≠ P) (h2 : TB ≠ E) (h3 : P ≠ E) (n : Nat) (k1 : n ≤ TB) (k2 : n ≤ P) (k3 : n ≤ E) (hn : n ≤ w.heap.size) :
    CallsD Tryz.prog 39 #[.pointer (some ⟨TB, 0, none⟩), .pointer (some ⟨P, 0, none⟩), .pointer (some ⟨E, 0, none⟩)] (.panicking [{ v := flt i e, recovered := false }]) w fun r u' w' =>
      r = .returned (.tuple #[]) ∧ u' = .panicking [{ v := flt i e, recovered := true }] ∧ NB w' TB zeroNd ∧ IB w' P 3 i ∧ IB w' E 31 e ∧ Below n w w' := by
  have q20 := eq20_some
  have ta := ta61
  have hal := (Below.refl w.heap.size w).alloc (Nat.le_refl _) (.cells #[.int .i64 (i : Nat), .int .i64 (e : Nat)] 88)
  have hbn : Below n w (w.alloc (.cells #[.int .i64 (i : Nat), .int .i64 (e : Nat)] 88)) := (Below.refl n w).alloc hn _
  have hT' := hT.later hal
  have hP' := hP.later hal
  have hE' := hE.later hal
  have hF' := fb_new w i e
  have f1 : w.heap.size ≠ TB := by have := hT.lt; omega
  have f2 : w.heap.size ≠ P := by have := hP.lt; omega
  have f3 : w.heap.size ≠ E := by have := hE.lt; omega
  unfold flt
  refine callsD_of_wpS Tryz.func39 rfl fun c₀ cs hu => ?_
  apply wpS_seq
  apply wpS_region
  simp [wpOpsS, go_sem, recoverD, hu, Tryz.ntmps39, Exit.thenS]
  apply wpS_seq
  apply wpS_seq
  apply wpS_region
  simp [wpOpsS, go_sem, Exit.thenS, q20]
  refine wpS_cond (t := false) (by simp [Act.eval, Array.replicate]) ?_
  simp only [Bool.false_eq_true, if_false]
  refine wpS_of_wp (wp_skip ?_)
  simp only [Exit.thenS]
  apply wpS_seq
  apply wpS_region
  simp [wpOpsS, go_sem, Exit.thenS, ta]
  apply wpS_seq
  apply wpS_seq
  apply wpS_region
  simp [wpOpsS, go_sem, Exit.thenS]
  refine wpS_cond (t := false) (by simp [Act.eval, Array.replicate]) ?_
  simp only [Bool.false_eq_true, if_false]
  refine wpS_of_wp (wp_skip ?_)
  simp only [Exit.thenS]
  refine wpS_of_wp ?_
  refine reg5 (n := n) (TB := TB) (P := P) (E := E) (F := w.heap.size) (i := i) (e := e) (x := x) (o1 := o1) (o2 := o2) (by simp [T]) (by simp [T]) (by simp [T]) (by simp [T]) (by simp) h1 h2 h3 f1 f2 f3 k1 k2 k3 hF' hT' hP' hE' ?_
  intro a' W' hdf q1 q2 q3 q4
  have q5 : Below n w W' := ⟨q4.os.trans hbn.os, q4.tape.trans hbn.tape, q4.output.trans hbn.output, Nat.le_trans hbn.size q4.size, fun b hb => (q4.block b hb).trans (hbn.block b hb)⟩
  clear q4 hT hP hE hal hbn hT' hP' hE' hF' f1 f2 f3 q20 ta
  exact ⟨hdf, _, rfl, _, results_none rfl _ _ _, rfl, rfl, q1, q2, q3, q5⟩
end Go.Proofs.YtmjnobdlgbojoaaGreatDoor
