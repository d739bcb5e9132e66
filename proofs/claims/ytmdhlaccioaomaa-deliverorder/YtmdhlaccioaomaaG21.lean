/- heronlaw20's mod, sameAlerts, and the watch's send (typed by gen/dlws.py). -/
import Derived.Test.YtmdhlaccioaomaaG20
namespace Go.Proofs.Ytmdhlaccioaomaa
open Go.RowKit Go.Maps Rg Bo
attribute [local go_sem ↓] Go.wp_at_zero Go.wp_at_succ loadAl_eq storeAl_eq
attribute [local go_sem] gd_al neq_same eql_same

theorem mod_fn {k : Int} {n : Nat} (w : World) (h0 : 0 < n) (hn : n ≤ 1099511627777) : Calls Try.prog 6 #[.int .i64 k, .int .i64 (n : Nat)] w fun e w' => ∃ m : Nat, e = .returned (.int .i64 (m : Nat)) ∧ m < n ∧ w' = w := by
  have hz : (n : Int) ≠ 0 := by omega
  have hb1 : -(n : Int) < k.tmod n ∧ k.tmod n < n := by
    have h1 := Int.tmod_lt_of_pos k (b := (n : Int)) (by omega)
    have h2 := Int.lt_tmod_of_pos k (b := (n : Int)) (by omega)
    exact ⟨h2, h1⟩
  obtain ⟨b1, b2⟩ := hb1
  by_cases h : k.tmod (n : Int) < 0
  · obtain ⟨m, hm⟩ : ∃ m : Nat, k.tmod (n : Int) + (n : Int) = (m : Nat) := Int.eq_ofNat_of_zero_le (by omega)
    have HE : Hid ((Value.int .i64 (k.tmod (n : Int) + (n : Int)) : Value) = .int .i64 (m : Nat) ∧ m < n) := ⟨by rw [hm], by omega⟩
    clear hm
    go_enter Try.func6, Try.ntmps6
    go_wp2
    go_ret
    exact ⟨m, congrArg Ending.returned HE.out.1, HE.out.2, rfl⟩
  · obtain ⟨m, hm⟩ : ∃ m : Nat, k.tmod (n : Int) = (m : Nat) := Int.eq_ofNat_of_zero_le (by omega)
    have HE : Hid ((Value.int .i64 (k.tmod (n : Int)) : Value) = .int .i64 (m : Nat) ∧ m < n) := ⟨by rw [hm], by omega⟩
    clear hm
    go_enter Try.func6, Try.ntmps6
    go_wp2
    go_ret
    exact ⟨m, congrArg Ending.returned HE.out.1, HE.out.2, rfl⟩
/-- a list of alerts as it is read -/
def AlAt (w : World) (a : Option Addr) (l : List Al) : Prop := l = [] ∨ ∃ b off, a = some ⟨b, off, none⟩ ∧ ∀ (i : Nat) x, l[i]? = some x → w.rangeAt b (off + i * 12) (alC x)
theorem AlAt.later {w u : World} {a : Option Addr} {l : List Al} (h : AlAt w a l) (hb : Below w.heap.size w u) : AlAt u a l := by
  rcases h with h | ⟨b, off, e, h⟩
  · exact .inl h
  · exact .inr ⟨b, off, e, fun i x hi => range_later hb (h i x hi)⟩
theorem AlAt.nth {w : World} {a : Option Addr} {l : List Al} (h : AlAt w a l) {i : Nat} {x : Al} (hx : l[i]? = some x) : ∃ b off, a = some ⟨b, off, none⟩ ∧ w.rangeAt b (off + i * 12) (alC x) := by
  rcases h with h | ⟨b, off, e, h⟩
  · subst h; simp at hx
  · exact ⟨b, off, e, h i x hx⟩
theorem ARow.at {w : World} {A : Nat} {l : List Al} (h : ARow w A l.length (fun p => l.getD p alZ)) : AlAt w (some ⟨A, 0, none⟩) l := .inr ⟨A, 0, rfl, fun i x hi => by
  have hl := (List.getElem?_eq_some_iff.1 hi).1
  have := h.range hl
  rw [show l.getD i alZ = x by rw [List.getD_eq_getElem?_getD, hi]; rfl] at this
  rwa [Nat.zero_add]⟩
theorem own_at {w : World} {base : Nat} {V : Value} {P : List Al} (h : w.ownsRow base 41 12 V P.length (P.flatMap alC)) : ∃ a c, V = .slice a P.length c ∧ AlAt w a P := by
  obtain ⟨a, c, rfl⟩ := own_form h
  refine ⟨a, c, rfl, ?_⟩
  by_cases h0 : P = []
  · exact .inl h0
  · obtain ⟨x, t, rfl⟩ := List.exists_cons_of_ne_nil h0
    obtain ⟨g, c', e, -, -, -, -⟩ := row_get alC_len h (k := 0) (x := x) rfl
    obtain ⟨rfl, -, -⟩ := Value.slice.inj e
    refine .inr ⟨g, 0, rfl, fun i y hi => ?_⟩
    obtain ⟨g2, c2, e2, -, -, hc, -⟩ := row_get alC_len h hi
    obtain ⟨e3, -, -⟩ := Value.slice.inj e2
    obtain rfl : g = g2 := by cases e3; rfl
    rw [Nat.zero_add]
    exact fun j v hv => hc j v hv
set_option maxRecDepth 8000 in
/-- the same alerts? -/
theorem same_any {w : World} {a b : Option Addr} {c d : Nat} {l : List Al} (ha : AlAt w a l) (hb : AlAt w b l) (hl : l.length ≤ 100000) : Calls Try.prog 11 #[.slice a l.length c, .slice b l.length d] w fun e w' => e = .returned (.bool true) ∧ Below w.heap.size w w' := by
  obtain ⟨n, hn⟩ : ∃ n, l.length = n := ⟨_, rfl⟩
  rw [hn] at hl ⊢
  have HA : Hid (AlAt w a l ∧ AlAt w b l ∧ l.length = n) := (⟨ha, hb, hn⟩ : _ ∧ _ ∧ _)
  have H0 : Hid (Below w.heap.size w w) := Below.refl _ w
  clear ha hb hn
  go_enter Try.func11, Try.ntmps11
  go_wp2_with fail
  go_loopw [5] (fun i u => ∃ j : Nat, i = .int .i64 (j : Nat) ∧ j ≤ n ∧ Hid (Below w.heap.size w u)) (fun i _ => n - (Go.RowKit.intOf i).toNat)
  case atStart => exact ⟨0, rfl, Nat.zero_le _, H0⟩
  case round =>
    obtain ⟨j, rfl, hj, HL⟩ := hrel
    clear H0
    by_cases hlt : j < n
    · have l1 : (j : Int) < (n : Int) := by omega
      obtain ⟨x, hx⟩ : ∃ x, l[j]? = some x := ⟨_, List.getElem?_eq_getElem (by rw [HA.out.2.2]; exact hlt)⟩
      obtain ⟨b1, o1, rfl, r1⟩ := (HA.out.1.later HL.out).nth hx
      obtain ⟨b2, o2, rfl, r2⟩ := (HA.out.2.1.later HL.out).nth hx
      have g1 := load_al (w := wr.drew) r1
      have g2 := load_al (w := wr.drew) r2
      have g1 : (loadAl (.pointer (some ⟨b1, o1 + j * 12, none⟩))).run Try.prog wr.drew = .ok (alV x) wr.drew := g1
      have g2 : (loadAl (.pointer (some ⟨b2, o2 + j * 12, none⟩))).run Try.prog wr.drew = .ok (alV x) wr.drew := g2
      clear r1 r2 hx
      go_upto_region 6 with fail
      go_region
      go_wp2_with fail
      go_roundw
      case rel => exact ⟨j + 1, by go_num, by omega, below_d HL.out⟩
      case measure => simp [Go.RowKit.intOf]; omega
    · have l1 : ¬ (j : Int) < (n : Int) := by omega
      go_wp2_with fail
      go_ret
      exact ⟨rfl, HL.out⟩
/-- how often the first was sent -/
def De.tr (x : De) : Nat := x.rf + if x.wi then 1 else 0
/-- A DELIVERER, ITS WATCH, and what they say of one another -/
structure OI (w : World) (n bs ms jl W D B R : Nat) (P : List Al) (V : Value) (tk : Nat) (x : De) (K : Nat) (u : World) : Prop where
  j : OJ w n bs ms jl W D B R P V tk x.wi x.tr x.wt x u
  l : x.l = P.drop tk
  tk : tk ≤ P.length
  k : P.length ≤ K ∧ x.rf ≤ K ∧ K ≤ 1000
section
variable {w u v : World} {n bs ms jl W D B R : Nat} {P : List Al} {V : Value} {tk K : Nat} {x : De}
theorem OI.later (h : OI w n bs ms jl W D B R P V tk x K u) (hb : Below u.heap.size u v) : OI w n bs ms jl W D B R P V tk x K v := ⟨h.j.later hb, h.l, h.tk, h.k⟩
theorem OI.len (h : OI w n bs ms jl W D B R P V tk x K u) : x.l.length = P.length - tk := by rw [h.l, List.length_drop]
theorem OI.one (h : OI w n bs ms jl W D B R P V tk x K u) (hl : 0 < x.l.length) : P[tk]? = some x.one ∧ tk < P.length := by
  have h1 := h.len
  have h2 := h.l
  refine ⟨?_, by omega⟩
  unfold De.one
  rw [h2, List.head?_drop, List.getElem?_eq_getElem (by omega)]
  rfl
end
theorem mo_nat {t : Nat} (h : t ≤ 2305843009213693952) : mo (t : Nat) = t := by unfold mo; split <;> (try split) <;> omega
theorem alAt_load {w : World} {b o : Nat} {x : Al} (h : w.rangeAt b o (alC x)) : (loadAl (.pointer (some ⟨b, o, none⟩))).run Try.prog w = .ok (alV x) w := load_al h
theorem drewN_below (w : World) (q : Nat) : Below w.heap.size w (w.drewN q) := tdrew_below w q
set_option maxRecDepth 8000 in
set_option maxHeartbeats 1000000 in
theorem wsend_yes {w u : World} {n bs ms jl W D B R : Nat} {P : List Al} {V : Value} {tk K : Nat} {x : De} (h : OI w n bs ms jl W D B R P V tk x K u) {t : Nat} (ht : t ≤ 2305843009213693952) (hm : x.may t = true) :
    Calls Try.prog 9 #[.pointer (some ⟨W, 0, none⟩), .pointer (some ⟨D, 0, none⟩), .int .i64 (t : Nat)] u fun e v => e = .returned (.bool true) ∧ OI w n bs ms jl W D B R P V tk x.sent K v := by
  obtain ⟨f, hd⟩ := h.j.d
  have hmay : (0 < x.l.length ∧ x.wi = false) ∧ x.wt ≤ t := by
    unfold De.may at hm
    simpa using hm
  obtain ⟨⟨hl, hwi⟩, hwt⟩ := hmay
  obtain ⟨hone, htk⟩ := h.one hl
  obtain ⟨y, hy⟩ : ∃ y, x.one = y := ⟨_, rfl⟩
  obtain ⟨rf, hrf⟩ : ∃ rf, x.rf = rf := ⟨_, rfl⟩
  obtain ⟨m, hmm⟩ : ∃ m, P.length = m := ⟨_, rfl⟩
  have htr : x.tr = rf := by unfold De.tr; rw [hwi, hrf]; rfl
  have hrf9 : rf ≤ 1000 := by have := h.k; omega
  have htk9 : tk < m ∧ m ≤ 1000 := by have := h.k; omega
  have HS : Hid (Calls Try.prog 15 #[.pointer (some ⟨D, 0, none⟩), .int .i64 (t : Nat)] u fun e v => e = .returned (.tuple #[alV y, .int .i64 ((rf + 1 : Nat) : Int), .bool true]) ∧ OJ w n bs ms jl W D B R P V tk false rf x.wt x.sent v) := (Send_yes hd (t : Nat) (by rw [mo_nat ht]; exact hm)).mono fun e v z => ⟨by rw [z.1, hy, hrf], by have := h.j.dcall z.2; rwa [hwi, htr] at this⟩
  have HI : Hid (OI w n bs ms jl W D B R P V tk x K u ∧ P[tk]? = some y ∧ P.length = m ∧ x.wi = false ∧ x.rf = rf) := (⟨h, by rw [← hy]; exact hone, hmm, hwi, hrf⟩ : _ ∧ _ ∧ _ ∧ _ ∧ _)
  obtain ⟨wt, hwt2⟩ : ∃ wt, x.wt = wt := ⟨_, rfl⟩
  rw [hwt2] at HS hwt
  have HWT : Hid (x.wt = wt) := hwt2
  have l2 : (wt : Int) ≤ (t : Int) := by omega
  have l1 : (tk : Int) < (m : Int) := by omega
  clear h hd hm hl hwi hone htk hy hrf hmm htr hwt hwt2
  go_enter Try.func9, Try.ntmps9
  go_upto_region 1 with fail
  go_wp2_with fail
  refine HS.out.mono ?_
  rintro e v1 ⟨rfl, k1⟩
  obtain ⟨w4, hw4⟩ : ∃ w4, v1.alloc (.cells (alC alZ).toArray 41) = w4 := ⟨_, rfl⟩
  obtain ⟨A4, hA4⟩ : ∃ A4, v1.heap.size = A4 := ⟨_, rfl⟩
  obtain ⟨b4, k4, -⟩ := zal_new hw4 hA4
  have HW4 : Hid (v1.alloc (.cells #[.int .i64 0, .int .i64 0, .int .i64 0, .int .i64 0, .int .i64 0, .int .i64 0, .int .i64 0, .int .i64 0, .int .i64 0, .int .i64 0, .string ⟨#[]⟩, .int .u32 0] 41) = w4) := hw4
  have HA4 : Hid (v1.heap.size = A4) := hA4
  have s4 := b4.store y
  have b5 := b4.put y
  have k5 := k1.later (below_puts k4 (Nat.le_of_eq hA4) 0 (alC y))
  obtain ⟨w5, hw5⟩ : ∃ w5, w4.setCells A4 0 (alC y) = w5 := ⟨_, rfl⟩
  rw [hw5] at s4 b5 k5
  obtain ⟨a, c, hV, -⟩ := own_at k5.p
  rw [HI.out.2.2.1] at hV
  obtain ⟨-, -, c4, c5, c6, c7, c8⟩ := k5.wb.cells
  rw [hV] at c4
  have q6 := k5.wb.frozen 6
  have q7 := k5.wb.frozen 7
  have HK5 : Hid (OJ w n bs ms jl W D B R P V tk false rf wt x.sent w5 ∧ AlB w5 A4 y ∧ V = .slice a m c) := (⟨k5, b5, hV⟩ : _ ∧ _ ∧ _)
  clear hw4 hA4 b4 k4 b5 k5 hw5 k1 hV HS
  go_upto_region 2 with (rw [HW4.out, HA4.out])
  go_quiet (fail)
  have hn1 := (HK5.out.1.later (drewN_below w5 nq)).wset 6 (.bool true) ((HK5.out.1.later (drewN_below w5 nq)).wb.put6 true)
  have hn2 := hn1.wset 7 (.int .i64 ((rf + 1 : Nat) : Int)) (hn1.wb.put7 (rf + 1))
  have b7 : AlB (((w5.drewN nq).setCell ⟨W, 6, none⟩ (.bool true)).setCell ⟨W, 7, none⟩ (.int .i64 ((rf + 1 : Nat) : Int))) A4 y := by
    have hne : A4 ≠ W := fun e => by
      have h1 := HK5.out.2.1.ty
      rw [e] at h1
      exact absurd (TyB.ne h1 HK5.out.1.wb.ty) (by decide)
    exact (HK5.out.2.1.later (drewN_below w5 nq)).same ((Below.heap_setCell _ ⟨W, 7, none⟩ _ A4 hne).trans (Below.heap_setCell _ ⟨W, 6, none⟩ _ A4 hne))
  obtain ⟨w7, hw7⟩ : ∃ w7, ((w5.drewN nq).setCell ⟨W, 6, none⟩ (.bool true)).setCell ⟨W, 7, none⟩ (.int .i64 ((rf + 1 : Nat) : Int)) = w7 := ⟨_, rfl⟩
  have HW7 : Hid (((w5.drewN nq).setCell ⟨W, 6, none⟩ (.bool true)).setCell ⟨W, 7, none⟩ (.int .i64 ((rf : Int) + 1)) = w7) := by
    show _ = _
    rw [show (rf : Int) + 1 = ((rf + 1 : Nat) : Int) by omega, hw7]
  rw [hw7] at hn2 b7
  have HN : Hid (OJ w n bs ms jl W D B R P V tk true (rf + 1) wt x.sent w7) := hn2
  obtain ⟨-, -, d4, d5, d6, d7, d8⟩ := hn2.wb.cells
  rw [HK5.out.2.2] at d4
  have g1 : ∀ q, (loadAl (.pointer (some ⟨A4, 0, none⟩))).run Try.prog (w7.drewN q) = .ok (alV y) (w7.drewN q) := fun q => (b7.later (drewN_below w7 q)).load
  obtain ⟨a', c', hV', hat⟩ := own_at hn2.p
  rw [HK5.out.2.2] at hV'
  obtain ⟨rfl, -, rfl⟩ := Value.slice.inj hV'
  obtain ⟨pb, po, rfl, hrg⟩ := hat.nth HI.out.2.1
  have g2 : ∀ q, (loadAl (.pointer (some ⟨pb, po + tk * 12, none⟩))).run Try.prog (w7.drewN q) = .ok (alV y) (w7.drewN q) := fun q => alAt_load (range_later (drewN_below w7 q) hrg)
  clear hn1 hn2 b7 hw7 hV' hat hrg
  go_upto_region 9 with fail
  rw [HW7.out]
  clear c4 c5 c6 c7 c8 q6 q7 s4
  go_quiet (fail)
  go_wp2
  go_ret
  refine ⟨rfl, ?_⟩
  have hz := HN.out.later (drewN_below w7 nq)
  refine ⟨?_, HI.out.1.l, HI.out.1.tk, HI.out.1.k⟩
  show OJ w n bs ms jl W D B R P V tk true x.sent.tr x.wt x.sent _
  rw [HWT.out, show x.sent.tr = rf + 1 by unfold De.tr De.sent; simp [HI.out.2.2.2.2]]
  exact hz
end Go.Proofs.Ytmdhlaccioaomaa
