/- holds, walked. -/
import Derived.Test.YtclcpblpmfijiaaG17
namespace Go.Proofs.Ytclcpblpmfijiaa
open Go.RowKit Go.Maps Rg
attribute [local go_sem ↓] Go.wp_at_zero Go.wp_at_succ

theorem own_pos {w : World} {e : TypeId} {V : Value} {n : Nat} {xs : List Value} (h : w.ownsRow 0 e 1 V n xs) (hn : 0 < n) : ∃ g c, V = .slice (some ⟨g, 0, none⟩) n c := by
  rcases h.2 with ⟨_, h0⟩ | ⟨g, cap, cur, rfl, _⟩
  · omega
  · exact ⟨g, cap, rfl⟩
def Sh (m : Nat) (L : List (List Int)) : Prop := ∀ (j : Nat) xs, m ≤ j → L[j]? = some xs → xs.length ≤ 64
/-- between two lists that are written over -/
def HoI (p : Nat) (T : Tg) (u : World) (D B Q : Nat) (VL VW : Value) (n i : Nat) (w : World) : Prop :=
  ∃ vs L, HSt p T u D B Q VL VW n w vs L ∧ Sh 0 L ∧ ∀ (j : Nat) xs, j < i → L[j]? = some xs → ∀ x ∈ xs, x = -1000 - (j : Int)
def HoJ (p : Nat) (T : Tg) (u : World) (D B Q : Nat) (VL VW : Value) (n i m k : Nat) (w : World) : Prop :=
  ∃ vs L xs, HSt p T u D B Q VL VW n w vs L ∧ Sh 0 L ∧ (∀ (j : Nat) xs, j < i → L[j]? = some xs → ∀ x ∈ xs, x = -1000 - (j : Int)) ∧ L[i]? = some xs ∧ xs.length = m ∧ ∀ (q : Nat) x, q < k → xs[q]? = some x → x = -1000 - (i : Int)
/-- between two lists that are lengthened -/
def HoK (p : Nat) (T : Tg) (u : World) (D B Q : Nat) (VL VW : Value) (n i r : Nat) (w : World) : Prop :=
  ∃ vs L, HSt p T u D B Q VL VW n w vs L ∧ Own L ∧ Sh (i + 1) L ∧ (∀ xs, L[i]? = some xs → xs.length ≤ 64 + r) ∧ ∀ (j : Nat) xs, L[j]? = some xs → xs.length ≤ 70
section
variable {p : Nat} {T : Tg} {u w w' : World} {D B R Q N f n : Nat} {VQ VL VW : Value} {l : List Int} {LL L : List (List Int)} {vs : List Value}
theorem HoI.begin {i : Nat} (h : HoI p T u D B Q VL VW n i w) (hi : i < n) : ∃ gL cL m a c, VL = .slice (some ⟨gL, 0, none⟩) n cL ∧ w.cell? ⟨D, 2, none⟩ = some VL ∧ w.cell? ⟨gL, i, none⟩ = some (.slice a m c) ∧ m ≤ 64 ∧ HoJ p T u D B Q VL VW n i m 0 w := by
  obtain ⟨vs, L, h1, h2, h3⟩ := h
  obtain ⟨V, xs, hV, hx⟩ := h1.get hi
  obtain ⟨a, c, e⟩ := own_form (h1.list hV hx)
  obtain ⟨gL, cL, eL⟩ := own_pos h1.row (by omega)
  have hrow := h1.row
  rw [eL] at hrow
  refine ⟨gL, cL, xs.length, a, c, eL, h1.d.cells.2.2.1, ?_, h2 i xs (Nat.zero_le _) hx, vs, L, xs, h1, h2, h3, hx, rfl, fun q x hq => by omega⟩
  rw [hrow.cellAt i (by omega), hV, e]
theorem HoJ.cells {i m k : Nat} (h : HoJ p T u D B Q VL VW n i m k w) (hi : i < n) (hk : k < m) : ∃ gL cL g c, VL = .slice (some ⟨gL, 0, none⟩) n cL ∧ w.cell? ⟨D, 2, none⟩ = some VL ∧ w.cell? ⟨gL, i, none⟩ = some (.slice (some ⟨g, 0, none⟩) m c) ∧ (∃ z, w.cell? ⟨g, k, none⟩ = some (.int .i64 z)) ∧ w.frozen? ⟨g, k, none⟩ = false ∧ HoJ p T u D B Q VL VW n i m (k + 1) (w.setCell ⟨g, k, none⟩ (.int .i64 (-1000 - (i : Int)))) := by
  obtain ⟨vs, L, xs, h1, h2, h3, hx, hm, hq⟩ := h
  obtain ⟨V, xs', hV, hx'⟩ := h1.get hi
  rw [hx] at hx'
  cases hx'
  have ho := h1.list hV hx
  rw [hm] at ho
  obtain ⟨g, c, rfl⟩ := own_pos ho (by omega)
  obtain ⟨gL, cL, eL⟩ := own_pos h1.row (by omega)
  have hrow := h1.row
  rw [eL] at hrow
  have hil : i < L.length := (List.getElem?_eq_some_iff.1 hx).1
  refine ⟨gL, cL, g, c, eL, h1.d.cells.2.2.1, ?_, ?_, ho.frozenAt k, vs, L.set i (xs.set k (-1000 - (i : Int))), xs.set k (-1000 - (i : Int)), h1.put hV hx k _, fun j ys _ hj => ?_, fun j ys hj hjs => ?_, by simp [hil], by simp [hm], fun q x hq2 hqx => ?_⟩
  · rw [hrow.cellAt i (by omega)]; exact hV
  · have : (ints xs)[k]? = some (.int .i64 (xs[k]'(by omega))) := by simp [ints]
    exact ⟨_, (ho.cellAt k (by omega)).trans this⟩
  · by_cases e : j = i
    · subst e
      simp [hil] at hj
      subst hj
      have := h2 j xs (Nat.zero_le _) hx
      simpa using this
    · rw [List.getElem?_set_ne (by omega)] at hj
      exact h2 j ys (Nat.zero_le _) hj
  · rw [List.getElem?_set_ne (by omega)] at hjs
    exact h3 j ys hj hjs
  · by_cases e : q = k
    · subst e
      have : q < xs.length := by omega
      simp [this] at hqx
      exact hqx.symm
    · rw [List.getElem?_set_ne (by omega)] at hqx
      exact hq q x (by omega) hqx
theorem HoJ.over {i m : Nat} (h : HoJ p T u D B Q VL VW n i m m w) : HoI p T u D B Q VL VW n (i + 1) w := by
  obtain ⟨vs, L, xs, h1, h2, h3, hx, hm, hq⟩ := h
  refine ⟨vs, L, h1, h2, fun j ys hj hjs y hy => ?_⟩
  by_cases e : j = i
  · subst e
    rw [hx] at hjs
    cases hjs
    obtain ⟨q, hql, rfl⟩ := List.getElem_of_mem hy
    exact hq q _ (by omega) (List.getElem?_eq_getElem hql)
  · exact h3 j ys (by omega) hjs y hy
theorem HoI.over (h : HoI p T u D B Q VL VW n n w) : HoK p T u D B Q VL VW n 0 0 w := by
  obtain ⟨vs, L, h1, h2, h3⟩ := h
  exact ⟨vs, L, h1, fun j xs hj => h3 j xs (by have := (List.getElem?_eq_some_iff.1 hj).1; rw [h1.ll] at this; exact this) hj, fun j xs _ hj => h2 j xs (Nat.zero_le _) hj, fun xs hj => h2 0 xs (Nat.zero_le _) hj, fun j xs hj => Nat.le_trans (h2 j xs (Nat.zero_le _) hj) (by omega)⟩
theorem HoK.own {i r : Nat} (h : HoK p T u D B Q VL VW n i r w) (hn : n ≤ 4000000) : Calls Try.prog 31 #[VL] w fun e w' => e = .returned (.bool true) ∧ w' = w := by
  obtain ⟨vs, L, h1, h2, _, _, h3⟩ := h
  refine own_any (owns_lat h1.row) (by rw [h1.vl, h1.ll]) (by rw [h1.ll]; exact hn) (fun j xs hj => ⟨Nat.le_trans (h3 j xs hj) (by omega), ?_⟩) h2
  have hjn : j < n := by have := (List.getElem?_eq_some_iff.1 hj).1; rw [h1.ll] at this; exact this
  obtain ⟨V, ys, hV, hy⟩ := h1.get hjn
  rw [hj] at hy
  cases hy
  exact ⟨V, hV, owns_lat (h1.list hV hj)⟩
theorem HoK.fr {i r : Nat} (h : HoK p T u D B Q VL VW n i r w) : FrP (fun k => (T k).1 = p) u w := by obtain ⟨vs, L, h1, _⟩ := h; exact h1.fr
theorem HoK.d {i r : Nat} (h : HoK p T u D B Q VL VW n i r w) : w.cell? ⟨D, 2, none⟩ = some VL := by obtain ⟨vs, L, h1, _⟩ := h; exact h1.d.cells.2.2.1
theorem HoI.dd {i : Nat} (h : HoI p T u D B Q VL VW n i w) : w.cell? ⟨D, 2, none⟩ = some VL := by obtain ⟨vs, L, h1, _⟩ := h; exact h1.d.cells.2.2.1
theorem HoJ.dd {i m k : Nat} (h : HoJ p T u D B Q VL VW n i m k w) : w.cell? ⟨D, 2, none⟩ = some VL := by obtain ⟨vs, L, xs, h1, _⟩ := h; exact h1.d.cells.2.2.1
theorem HoK.next {i : Nat} (h : HoK p T u D B Q VL VW n i 3 w) : HoK p T u D B Q VL VW n (i + 1) 0 w := by
  obtain ⟨vs, L, h1, h2, h3, h4, h5⟩ := h
  exact ⟨vs, L, h1, h2, fun j xs hj => h3 j xs (by omega), fun xs hx => h3 (i + 1) xs (Nat.le_refl _) hx, h5⟩
theorem HoK.step {i r : Nat} (h : HoK p T u D B Q VL VW n i r w) (hi : i < n) (hr : r < 3) : ∃ gL cL V xs, VL = .slice (some ⟨gL, 0, none⟩) n cL ∧ w.cell? ⟨D, 2, none⟩ = some (.slice (some ⟨gL, 0, none⟩) n cL) ∧ w.cell? ⟨gL, i, none⟩ = some V ∧ w.frozen? ⟨gL, i, none⟩ = false ∧ ¬ Xb V D ∧ ¬ Xb V gL ∧ w.ownsRow 0 3 1 V xs.length (ints xs) ∧ xs.length ≤ 1000 ∧
    ∀ w' V', FrP (Xb V) w w' → w'.ownsRow 0 3 1 V' (xs.length + 1) (ints (xs ++ [-1000 - (i : Int)])) → (∀ b, V'.ownBlock = some b → V.ownBlock = some b ∨ w.heap.size ≤ b) → HoK p T u D B Q VL VW n i (r + 1) (w'.setCell ⟨gL, i, none⟩ V') := by
  obtain ⟨vs, L, h1, h2, h3, h4, h5⟩ := h
  obtain ⟨V, xs, hV, hx⟩ := h1.get hi
  obtain ⟨gL, cL, eL⟩ := own_pos h1.row (by omega)
  subst eL
  have hrow := h1.row
  have hil : i < L.length := (List.getElem?_eq_some_iff.1 hx).1
  have hxl := h4 xs hx
  refine ⟨gL, cL, V, xs, rfl, h1.d.cells.2.2.1, (hrow.cellAt i (by omega)).trans hV, hrow.frozenAt i, fun e => (h1.ne hV hx e).1 rfl, fun e => (h1.ne hV hx e).2 rfl, h1.list hV hx, by omega, fun w' V' hF ho hh => ?_⟩
  refine ⟨vs.set i V', L.set i (xs ++ [-1000 - (i : Int)]), h1.app hV hx hF (by rw [List.length_append]; exact ho) hh, fun j ys hj y hy => ?_, fun j ys hj hjs => ?_, fun ys hjs => ?_, fun j ys hj => ?_⟩
  · by_cases e : j = i
    · subst e
      simp [hil] at hj
      subst hj
      rcases List.mem_append.1 hy with x | x
      · exact h2 j xs hx y x
      · simpa using x
    · rw [List.getElem?_set_ne (by omega)] at hj
      exact h2 j ys hj y hy
  · rw [List.getElem?_set_ne (by omega)] at hjs
    exact h3 j ys hj hjs
  · simp [hil] at hjs
    subst hjs
    simp
    omega
  · by_cases e : j = i
    · subst e
      simp [hil] at hj
      subst hj
      simp
      omega
    · rw [List.getElem?_set_ne (by omega)] at hj
      exact h5 j ys hj
theorem seventeen {q : List Value} (h : q.length = 97 - 80) : ∃ x1 x2 x3 x4 x5 x6 x7 x8 x9 y1 y2 y3 y4 y5 y6 y7 y8, q = [x1, x2, x3, x4, x5, x6, x7, x8, x9, y1, y2, y3, y4, y5, y6, y7, y8] := by
  match q, h with
  | [x1, x2, x3, x4, x5, x6, x7, x8, x9, y1, y2, y3, y4, y5, y6, y7, y8], _ => exact ⟨_, _, _, _, _, _, _, _, _, _, _, _, _, _, _, _, _, rfl⟩
set_option maxRecDepth 8000 in
set_option maxHeartbeats 3200000 in
theorem holds_any (h : PAt p T u D B R Q N f VQ VL VW l l LL) (hLL : LL.length ≤ 4000000) :
    Calls Try.prog 23 #[.pointer (some ⟨D, 0, none⟩)] u fun e w' => e = .returned (.bool true) ∧ Ext p T T u w' := by
  obtain ⟨vs, hst, ws, hws, hwl, hls⟩ := HSt.start h
  obtain ⟨n, hn⟩ : ∃ n, LL.length = n := ⟨_, rfl⟩
  rw [hn] at hst hwl hLL
  obtain ⟨aL, cL, rfl⟩ := own_form hst.row
  obtain ⟨aW, cW, rfl⟩ := lat_len hws
  rw [hwl] at hws hst
  have HI0 : Hid (∀ w, Drw u w → HoI p T u D B Q (.slice aL n cL) (.slice aW n cW) n 0 w) := fun w hd => ⟨vs, LL, hst.later (by obtain ⟨q, rfl⟩ := hd; exact drew_below u q), fun j xs _ hj => (hls j xs hj).1, fun j xs hj => by omega⟩
  have HVL : Hid (LAt u (.slice aL n cL) vs) := owns_lat hst.row
  have HWL : Hid (LAt u (.slice aW n cW) ws) := hws
  have HLS : Hid (∀ (i : Nat) xs, LL[i]? = some xs → xs.length ≤ 64 ∧ ∃ V W, vs[i]? = some V ∧ ws[i]? = some W ∧ LAt u V (ints xs) ∧ LAt u W (ints xs)) := hls
  have HN : Hid (LL.length = n) := hn
  obtain ⟨_, _, d2, d3⟩ := hst.d.cells
  have HD2 : Hid (u.cell? ⟨D, 2, none⟩ = some (.slice aL n cL) ∧ u.cell? ⟨D, 3, none⟩ = some (.slice aW n cW)) := (⟨d2, d3⟩ : _ ∧ _)
  have H0 : Hid (Drw u u) := (⟨0, rfl⟩ : Drw u u)
  clear h hst hws hwl hls hn
  go_enter Try.func23, Try.ntmps23
  go_wp2_with fail
  go_loopw [12] (fun v x => ∃ i : Nat, v = .int .i64 (i : Nat) ∧ i ≤ n ∧ Hid (Drw u x)) (fun v _ => n - (Go.RowKit.intOf v).toNat)
  case atStart => exact ⟨0, rfl, Nat.zero_le _, H0⟩
  case round =>
    obtain ⟨i, rfl, hi, HW⟩ := hrel
    clear H0
    by_cases hlt : i < n
    · have l1 : (i : Int) < (n : Int) := by omega
      obtain ⟨bL, oL, V, rfl, hV, cV⟩ := lat_nth HVL.out hlt
      obtain ⟨bW, oW, W, rfl, hW, cW'⟩ := lat_nth HWL.out hlt
      have hlen : i < LL.length := by rw [HN.out]; exact hlt
      obtain ⟨xs, hxs⟩ : ∃ xs, LL[i]? = some xs := ⟨_, List.getElem?_eq_getElem hlen⟩
      obtain ⟨hx1, V', W', hV', hW', hla, hlb⟩ := HLS.out i xs hxs
      rw [hV] at hV'
      rw [hW] at hW'
      cases hV'
      cases hW'
      have HSQ : Hid (∀ q, Calls Try.prog 30 #[V, W] (wr.drewN q) fun e w' => e = .returned (.bool true) ∧ ∃ k, w' = (wr.drewN q).drewN k) := fun q => by
        have e : (wr.drewN q).heap = u.heap := HW.out.heap
        have hk : ∀ b o v, u.cell? ⟨b, o, none⟩ = some v → (wr.drewN q).cell? ⟨b, o, none⟩ = some v := fun b o v hc => by
          simp only [World.cell?] at hc ⊢
          rw [e]
          exact hc
        exact same_q (hla.keep hk) (hlb.keep hk) (by omega)
      have c1 := HW.out.cell cV
      have c2 := HW.out.cell cW'
      have c3 := HW.out.cell HD2.out.1
      have c4 := HW.out.cell HD2.out.2
      have HDR : Hid (∀ q, Drw u (wr.drewN q)) := fun q => by
        obtain ⟨k, e⟩ := HW.out
        exact ⟨k + q, by rw [e]; simp [World.drewN, Nat.add_assoc]⟩
      clear cV cW' hlen hxs hx1 hla hlb hV hW d2 d3
      go_upto_region 4 with fail
      go_quiet ((go_at_call 30; exact Calls.quiet_of (HSQ.out _)))
      go_wp2_with fail
      go_roundw
      case rel => exact ⟨i + 1, by go_num, by omega, HDR.out _⟩
      case measure => simp [Go.RowKit.intOf]; omega
    · have l1 : ¬ (i : Int) < (n : Int) := by omega
      have HIB : Hid (HoI p T u D B Q (.slice aL n cL) (.slice aW n cW) n 0 wr) := HI0.out _ HW.out
      have c3 := HIB.out.dd
      clear HI0 HVL HWL HLS HN HW HD2 d2 d3 hlt
      go_wp2_with fail
      go_loopw [37] (fun v x => ∃ i : Nat, v = .int .i64 (i : Nat) ∧ i ≤ n ∧ Hid (HoI p T u D B Q (.slice aL n cL) (.slice aW n cW) n i x)) (fun v _ => n - (Go.RowKit.intOf v).toNat)
      case atStart => exact ⟨0, rfl, Nat.zero_le _, HIB⟩
      case round =>
        obtain ⟨i, rfl, hi2, HI⟩ := hrel
        clear HIB c3
        by_cases hlt : i < n
        · have l2 : (i : Int) < (n : Int) := by omega
          obtain ⟨gL, cL', m, a, c, eL, d2, cV, hm64, hJ⟩ := HI.out.begin hlt
          cases eL
          have HJ0 : Hid (HoJ p T u D B Q (.slice (some ⟨gL, 0, none⟩) n cL) (.slice aW n cW) n i m 0 wr) := hJ
          clear hJ HI
          go_wp2_with fail
          go_loopw [48] (fun v x => ∃ k : Nat, v = .int .i64 (k : Nat) ∧ k ≤ m ∧ Hid (HoJ p T u D B Q (.slice (some ⟨gL, 0, none⟩) n cL) (.slice aW n cW) n i m k x)) (fun v _ => m - (Go.RowKit.intOf v).toNat)
          case atStart => exact ⟨0, rfl, Nat.zero_le _, HJ0⟩
          case round =>
            obtain ⟨k, rfl, hk, HJ⟩ := hrel
            clear HJ0 d2 cV
            by_cases hkl : k < m
            · have l3 : (k : Int) < (m : Int) := by omega
              obtain ⟨gL', cL', g, c', eL, d2, cV, ⟨z, cz⟩, qz, hJ⟩ := HJ.out.cells hlt hkl
              cases eL
              have HN1 : Hid (HoJ p T u D B Q (.slice (some ⟨gL, 0, none⟩) n cL) (.slice aW n cW) n i m (k + 1) (wr.setCell ⟨g, k, none⟩ (.int .i64 (-1000 - (i : Int))))) := hJ
              clear hJ HJ
              go_wp2_with fail
              go_roundw
              case rel => exact ⟨k + 1, by go_num, by omega, HN1⟩
              case measure => simp [Go.RowKit.intOf]; omega
            · have l3 : ¬ (k : Int) < (m : Int) := by omega
              obtain rfl : m = k := by omega
              have HN1 : Hid (HoI p T u D B Q (.slice (some ⟨gL, 0, none⟩) n cL) (.slice aW n cW) n (i + 1) wr) := HJ.out.over
              clear HJ
              go_wp2_with fail
              go_roundw
              case rel => exact ⟨i + 1, by go_num, by omega, HN1⟩
              case measure => simp [Go.RowKit.intOf]; omega
        · have l2 : ¬ (i : Int) < (n : Int) := by omega
          obtain rfl : n = i := by omega
          have HK0 : Hid (HoK p T u D B Q (.slice aL n cL) (.slice aW n cW) n 0 0 wr) := HI.out.over
          have d2 := HK0.out.d
          clear HI
          go_wp2_with fail
          refine (HK0.out.own hLL).mono ?_
          rintro e w2 ⟨rfl, rfl⟩
          go_wp2_with fail
          go_loopw [75] (fun v x => ∃ i : Nat, v = .int .i64 (i : Nat) ∧ i ≤ n ∧ Hid (HoK p T u D B Q (.slice aL n cL) (.slice aW n cW) n i 0 x)) (fun v _ => n - (Go.RowKit.intOf v).toNat)
          case atStart => exact ⟨0, rfl, Nat.zero_le _, HK0⟩
          case round =>
            obtain ⟨i, rfl, hi3, HK⟩ := hrel
            clear HK0 d2
            by_cases hlt : i < n
            · have l3 : (i : Int) < (n : Int) := by omega
              go_wp2_with fail
              go_loopw [78] (fun v x => ∃ r : Nat, v = .int .i64 (r : Nat) ∧ r ≤ 3 ∧ Hid (HoK p T u D B Q (.slice aL n cL) (.slice aW n cW) n i r x)) (fun v _ => 3 - (Go.RowKit.intOf v).toNat)
              case atStart => exact ⟨0, rfl, Nat.zero_le _, HK⟩
              case round =>
                obtain ⟨r, rfl, hr, HR⟩ := hrel
                clear HK
                by_cases hrl : r < 3
                · have l4 : (r : Int) < 3 := by omega
                  obtain ⟨gL, cL', V, xs, eL, d2, cV, fz, nD, ng, ho, hxl, hnext⟩ := HR.out.step hlt hrl
                  cases eL
                  have HNX : Hid (∀ w' V', FrP (Xb V) wr w' → w'.ownsRow 0 3 1 V' (xs.length + 1) (ints (xs ++ [-1000 - (i : Int)])) → (∀ b, V'.ownBlock = some b → V.ownBlock = some b ∨ wr.heap.size ≤ b) → HoK p T u D B Q (.slice (some ⟨gL, 0, none⟩) n cL) (.slice aW n cW) n i (r + 1) (w'.setCell ⟨gL, i, none⟩ V')) := hnext
                  clear hnext HR
                  go_upto_region 23 with fail
                  refine regHl D gL n cL i V xs (-1000 - (i : Int)) (by kernel_rfl) rfl rfl rfl d2 cV fz l3 ?_ rfl nD ng ho hxl ?_
                  · have h1 : i ≤ 4000000 := by omega
                    rw [IntKind.wrap_i64]; omega
                  · intro a' w' V' hfa hF ho' hb'
                    have HN1 : Hid (HoK p T u D B Q (.slice (some ⟨gL, 0, none⟩) n cL) (.slice aW n cW) n i (r + 1) (w'.setCell ⟨gL, i, none⟩ V')) := HNX.out w' V' hF ho' hb'
                    obtain ⟨q, hq, rfl⟩ := hfa.laid rfl (by decide) (by decide)
                    obtain ⟨x1, x2, x3, x4, x5, x6, x7, x8, x9, y1, y2, y3, y4, y5, y6, y7, y8, rfl⟩ := seventeen hq
                    clear hfa hF ho' hb' hq HNX d2 cV fz nD ng ho hxl
                    simp only [List.take_succ_cons, List.drop_succ_cons, List.take_zero, List.drop_zero, List.cons_append, List.nil_append]
                    go_wp2_with fail
                    go_roundw
                    case rel => exact ⟨r + 1, by go_num, by omega, HN1⟩
                    case measure => simp [Go.RowKit.intOf]; omega
                · have l4 : ¬ (r : Int) < 3 := by omega
                  obtain rfl : r = 3 := by omega
                  have HN1 : Hid (HoK p T u D B Q (.slice aL n cL) (.slice aW n cW) n (i + 1) 0 wr) := HR.out.next
                  clear HR
                  go_wp2_with fail
                  go_roundw
                  case rel => exact ⟨i + 1, by go_num, by omega, HN1⟩
                  case measure => simp [Go.RowKit.intOf]; omega
            · have l3 : ¬ (i : Int) < (n : Int) := by omega
              have d2 := HK.out.d
              go_wp2_with fail
              refine (HK.out.own hLL).mono ?_
              rintro e w2 ⟨rfl, rfl⟩
              go_wp2_with fail
              go_ret
              exact ⟨rfl, fun _ _ => rfl, HK.out.fr⟩
end
end Go.Proofs.Ytclcpblpmfijiaa
