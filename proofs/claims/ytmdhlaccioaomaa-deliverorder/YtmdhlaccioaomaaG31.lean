/- DeliverOrder, walked (typed by gen/dlord.py). -/
import Derived.Test.YtmdhlaccioaomaaG30
import Derived.Deep.CutBlock
namespace Go.Proofs.Ytmdhlaccioaomaa
open Go.RowKit Go.Maps Rg Bo
attribute [local go_sem ↓] Go.wp_at_zero Go.wp_at_succ loadAl_eq storeAl_eq bslAl_eq appAl_eq loadOp_eq storeOp_eq
attribute [local go_sem] gd_al neq_same eql_same zgd zeql

theorem opAt_later {w u : World} {a : Option Addr} {l : List Opc} (h : OpAt w a l) (hb : Below w.heap.size w u) : OpAt u a l := by
  rcases h with h | ⟨b, off, e, h⟩
  · exact .inl h
  · exact .inr ⟨b, off, e, fun i x hi => range_later hb (h i x hi)⟩
theorem OpAt.get {w : World} {a : Option Addr} {l : List Opc} (h : OpAt w a l) {i : Nat} {x : Opc} (hx : l[i]? = some x) : ∃ b off, a = some ⟨b, off, none⟩ ∧ w.rangeAt b (off + i * 16) (opC x) := by
  rcases h with h | ⟨b, off, e, h⟩
  · subst h; simp at hx
  · exact ⟨b, off, e, h i _ hx⟩
/-- how all stands between two calls -/
def ST (w : World) (n bs ms jl W D B R k : Nat) (u : World) : Prop := ∃ P V tk x, OI w n bs ms jl W D B R P V tk x k u ∧ x.wt ≤ 2251799813685248
theorem ST.mono {w u : World} {n bs ms jl W D B R k k' : Nat} (h : ST w n bs ms jl W D B R k u) (h1 : k ≤ k') (h2 : k' ≤ 1000) : ST w n bs ms jl W D B R k' u := by
  obtain ⟨P, V, tk, x, h, hw⟩ := h
  exact ⟨P, V, tk, x, h.mono h1 h2, hw⟩
theorem ST.later {w u v : World} {n bs ms jl W D B R k : Nat} (h : ST w n bs ms jl W D B R k u) (hb : Below u.heap.size u v) : ST w n bs ms jl W D B R k v := by
  obtain ⟨P, V, tk, x, h, hw⟩ := h
  exact ⟨P, V, tk, x, h.later hb, hw⟩
section
variable {w u : World} {n bs ms jl W D B R k : Nat}
theorem ST.send (h : ST w n bs ms jl W D B R k u) {t : Nat} (ht : t ≤ 2305843009213693952) : Calls Try.prog 9 #[.pointer (some ⟨W, 0, none⟩), .pointer (some ⟨D, 0, none⟩), .int .i64 (t : Nat)] u fun e v => e = .returned (.bool true) ∧ ST w n bs ms jl W D B R k v := by
  obtain ⟨P, V, tk, x, h, hb⟩ := h
  cases hm : x.may t with
  | true => exact (wsend_yes h ht hm).mono fun e v z => ⟨z.1, _, _, _, _, z.2, hb⟩
  | false => exact (wsend_no h ht hm).mono fun e v z => ⟨z.1, _, _, _, _, z.2, hb⟩
theorem ST.answer (h : ST w n bs ms jl W D B R k u) (hk : k < 1000) {t : Nat} (ht : t ≤ 1125899906842624) (o : Opc) : Calls Try.prog 10 #[.pointer (some ⟨W, 0, none⟩), .pointer (some ⟨D, 0, none⟩), opV o, .int .i64 (t : Nat)] u fun e v => e = .returned (.bool true) ∧ ST w n bs ms jl W D B R (k + 1) v := by
  obtain ⟨P, V, tk, x, h, hb⟩ := h
  cases hw : x.wi with
  | false => exact (wans_none h o hw).mono fun e v z => ⟨z.1, _, _, _, _, z.2.mono (by omega) (by omega), hb⟩
  | true =>
    cases hy : o.y with
    | true => exact (wans_yes h o hw hy).mono fun e v z => ⟨z.1, _, _, _, _, z.2.mono (by omega) (by omega), Nat.zero_le _⟩
    | false =>
      obtain ⟨f, hd⟩ := h.j.d
      have hms := hd.ms
      have hjl := hd.jl
      exact (wans_no h (by omega) o hw hy hk).mono fun e v z => ⟨z.1, _, _, _, _, z.2, by
        have h1 := dl_le bs ms x.rf
        have h2 := jt_le o.j jl
        show t + dl bs ms x.rf + jt o.j jl ≤ _
        omega⟩
end
set_option maxRecDepth 20000 in
set_option maxHeartbeats 4000000 in
theorem order_any {w : World} {z0 z1 z2 z3 : Int} {a : Option Addr} {c : Nat} {ops : List Opc} (ho : OpAt w a ops) (hl : ops.length ≤ 35184372088832) (hs : ∀ o ∈ ops, o.a.t.size ≤ 281474976710656) :
    Calls Try.prog 3 #[.agg #[.int .i64 z0, .int .i64 z1, .int .i64 z2, .int .i64 z3], .slice a ops.length c] w fun e w' => e = .returned (.bool true) ∧ Below w.heap.size w w' := by
  obtain ⟨nS, hnS⟩ : ∃ nS, ops.length = nS := ⟨_, rfl⟩
  rw [hnS] at hl ⊢
  have HO : Hid (OpAt w a ops ∧ ops.length = nS ∧ ∀ o ∈ ops, o.a.t.size ≤ 281474976710656) := (⟨ho, hnS, hs⟩ : _ ∧ _ ∧ _)
  obtain ⟨w1, hw1⟩ : ∃ w1, w.alloc (.cells #[.int .i64 z0, .int .i64 z1, .int .i64 z2, .int .i64 z3] 23) = w1 := ⟨_, rfl⟩
  obtain ⟨S, hS⟩ : ∃ S, w.heap.size = S := ⟨_, rfl⟩
  have HW1 : Hid (w.alloc (.cells #[.int .i64 z0, .int .i64 z1, .int .i64 z2, .int .i64 z3] 23) = w1) := hw1
  have HS : Hid (w.heap.size = S) := hS
  have hb1 : w1.heap[S]? = some (.cells #[.int .i64 z0, .int .i64 z1, .int .i64 z2, .int .i64 z3] 23 (0, 0)) := by rw [← hw1, ← hS]; exact heap_alloc_new w _
  have HK1 : Hid (Below w.heap.size w w1 ∧ w1.heap[S]? = some (.cells #[.int .i64 z0, .int .i64 z1, .int .i64 z2, .int .i64 z3] 23 (0, 0))) := (⟨by rw [← hw1]; exact below_new w _, hb1⟩ : _ ∧ _)
  have HFX : Hid (Calls Try.prog 5 #[] w1 _) := fixed_any w1
  clear ho hnS hs hw1 hS hb1
  go_enter Try.func3, Try.ntmps3
  go_upto_region 1 with fail
  rw [HW1.out, HS.out]
  go_wp2_with fail
  refine HFX.out.mono ?_
  rintro e u1 ⟨rfl, k1⟩
  have hS1 : S < w1.heap.size := (Array.getElem?_eq_some_iff.1 HK1.out.2).1
  have HU1 : Hid (u1.heap[S]? = some (.cells #[.int .i64 z0, .int .i64 z1, .int .i64 z2, .int .i64 z3] 23 (0, 0)) ∧ Below w.heap.size w u1) := (⟨(k1.block S hS1).trans HK1.out.2, below_step HK1.out.1 k1⟩ : _ ∧ _)
  have x0 : u1.cell? ⟨S, 0, none⟩ = some (.int .i64 z0) := by simp [World.cell?, HU1.out.1]
  have x1 : u1.cell? ⟨S, 1, none⟩ = some (.int .i64 z1) := by simp [World.cell?, HU1.out.1]
  have x2 : u1.cell? ⟨S, 2, none⟩ = some (.int .i64 z2) := by simp [World.cell?, HU1.out.1]
  have x3 : u1.cell? ⟨S, 3, none⟩ = some (.int .i64 z3) := by simp [World.cell?, HU1.out.1]
  have fz : ∀ i, u1.frozen? ⟨S, i, none⟩ = false := fun i => by simp [World.frozen?, HU1.out.1]
  have y0 := fz 0
  have y1 := fz 1
  have y2 := fz 2
  have y3 := fz 3
  clear fz k1 hS1 HFX
  have HM : Hid (∀ z v, Calls Try.prog 6 #[.int .i64 z, .int .i64 64] v fun e w' => ∃ m : Nat, e = .returned (.int .i64 (m : Nat)) ∧ m < 64 ∧ w' = v) := fun z v => mod_fn (n := 64) v (by omega) (by omega)
  have HM2 : Hid (∀ z v, Calls Try.prog 6 #[.int .i64 z, .int .i64 1099511627777] v fun e w' => ∃ m : Nat, e = .returned (.int .i64 (m : Nat)) ∧ m < 1099511627777 ∧ w' = v) := fun z v => mod_fn (n := 1099511627777) v (by omega) (by omega)
  go_wp2_with fail
  refine (HM.out _ _).mono ?_
  rintro e v0 ⟨m0, rfl, hm0, hv⟩
  subst v0
  go_wp2_with fail
  refine (HM2.out _ _).mono ?_
  rintro e v1 ⟨bs, rfl, hbs, hv⟩
  subst v1
  go_wp2_with fail
  refine (HM2.out _ _).mono ?_
  rintro e v2 ⟨ms, rfl, hms, hv⟩
  subst v2
  go_wp2_with fail
  refine (HM2.out _ _).mono ?_
  rintro e v3 ⟨jl, rfl, hjl, hv⟩
  subst v3
  obtain ⟨n, hn⟩ : ∃ n, m0 + 1 = n := ⟨_, rfl⟩
  have hn9 : 1 ≤ n ∧ n ≤ 64 := by omega
  have hmn : (1 : Int) + (m0 : Int) = (n : Int) := by omega
  obtain ⟨w0, hw0⟩ : ∃ w0, (((u1.setCell ⟨S, 0, none⟩ (.int .i64 (n : Nat))).setCell ⟨S, 1, none⟩ (.int .i64 (bs : Nat))).setCell ⟨S, 2, none⟩ (.int .i64 (ms : Nat))).setCell ⟨S, 3, none⟩ (.int .i64 (jl : Nat)) = w0 := ⟨_, rfl⟩
  have HW0 : Hid ((((u1.setCell ⟨S, 0, none⟩ (.int .i64 (n : Nat))).setCell ⟨S, 1, none⟩ (.int .i64 (bs : Nat))).setCell ⟨S, 2, none⟩ (.int .i64 (ms : Nat))).setCell ⟨S, 3, none⟩ (.int .i64 (jl : Nat)) = w0) := hw0
  have hbx : w0.heap[S]? = some (.cells #[.int .i64 (n : Nat), .int .i64 (bs : Nat), .int .i64 (ms : Nat), .int .i64 (jl : Nat)] 23 (0, 0)) := by
    rw [← hw0, heap_set (heap_set (heap_set (heap_set HU1.out.1 0 _) 1 _) 2 _) 3 _]
    simp
  have hSw : w.heap.size ≤ S := Nat.le_of_eq HS.out
  have hlo0 : Below w.heap.size w w0 := by rw [← hw0]; exact below_put (below_put (below_put (below_put HU1.out.2 hSw 0 _) hSw 1 _) hSw 2 _) hSw 3 _
  have c0 : w0.cell? ⟨S, 0, none⟩ = some (.int .i64 (n : Nat)) := by simp [World.cell?, hbx]
  have c1 : w0.cell? ⟨S, 1, none⟩ = some (.int .i64 (bs : Nat)) := by simp [World.cell?, hbx]
  have c2 : w0.cell? ⟨S, 2, none⟩ = some (.int .i64 (ms : Nat)) := by simp [World.cell?, hbx]
  have c3 : w0.cell? ⟨S, 3, none⟩ = some (.int .i64 (jl : Nat)) := by simp [World.cell?, hbx]
  have H0 : Hid (Below w.heap.size w w0 ∧ OpAt w0 a ops) := (⟨hlo0, opAt_later HO.out.1 hlo0⟩ : _ ∧ _)
  have HND : Hid (Calls Try.prog 7 #[.int .i64 (n : Nat), .int .i64 (bs : Nat), .int .i64 (ms : Nat), .int .i64 (jl : Nat)] w0 _) := dnew_any (w := w0) hn9 (by omega) (by omega) (by omega)
  clear hw0 hbx hlo0 HU1 HM HM2 HK1 HW1 hm0
  go_upto_region 7 with fail
  rw [HW0.out]
  clear x0 x1 x2 x3 y0 y1 y2 y3 HW0
  go_wp2_with fail
  refine HND.out.mono ?_
  rintro e u2 ⟨D, B, R, rfl, hnd⟩
  obtain ⟨g1, g2, g3, g4, g5⟩ := hnd
  have d0 := cell_later g2 _ _ _ c0
  have d1 := cell_later g2 _ _ _ c1
  have d2 := cell_later g2 _ _ _ c2
  have d3 := cell_later g2 _ _ _ c3
  obtain ⟨u3, hu3⟩ : ∃ u3, u2.alloc (.cells #[.int .i64 (n : Nat), .int .i64 (bs : Nat), .int .i64 (ms : Nat), .int .i64 (jl : Nat), .slice none 0 0, .int .i64 0, .bool false, .int .i64 0, .int .i64 0] 34) = u3 := ⟨_, rfl⟩
  obtain ⟨W, hW⟩ : ∃ W, u2.heap.size = W := ⟨_, rfl⟩
  have HU3 : Hid (u2.alloc (.cells #[.int .i64 (n : Nat), .int .i64 (bs : Nat), .int .i64 (ms : Nat), .int .i64 (jl : Nat), .slice none 0 0, .int .i64 0, .bool false, .int .i64 0, .int .i64 0] 34) = u3) := hu3
  have HWW : Hid (u2.heap.size = W) := hW
  have kb : Below u2.heap.size u2 u3 := by rw [← hu3]; exact below_new u2 _
  have hwb : WBox u3 W n bs ms jl (.slice none 0 0) 0 false 0 0 := by rw [← hu3, ← hW]; exact heap_alloc_new u2 _
  have HST : Hid (ST w0 n bs ms jl W D B R 0 u3) := ⟨[], .slice none 0 0, 0, ⟨[], false, 0, 0⟩, ⟨⟨⟨0, g1.later kb⟩, hwb, World.ownsRow_nil u3 _ _ _, fun e => by simp [Value.ownBlock] at e, below_step g2 kb, by have := g2.size; omega, g3, g4, g5⟩, rfl, by simp, by simp, by simp, by omega⟩, by simp⟩
  have HC0 : Hid (w0.cell? ⟨S, 0, none⟩ = some (.int .i64 (n : Nat))) := c0
  clear g1 g2 g3 g4 g5 hu3 hW kb hwb HND c0 c1 c2 c3
  go_upto_region 11 with (rw [HU3.out, HWW.out])
  go_upto_region 12 with fail
  go_wp2_with fail
  go_loopw [8, 9] (fun v8 v9 u => ∃ k t : Nat, v9 = .int .i64 (k : Nat) ∧ v8 = .int .i64 (t : Nat) ∧ k ≤ nS ∧ k ≤ 300 ∧ t ≤ k * 1073741824 ∧ Hid (ST w0 n bs ms jl W D B R k u)) (fun _ v9 _ => nS - (Go.RowKit.intOf v9).toNat)
  case atStart => exact ⟨0, 0, rfl, rfl, by omega, by omega, by omega, HST⟩
  case round =>
    obtain ⟨k, t, rfl, rfl, hk, hk3, ht, HS1⟩ := hrel
    clear HST d0 d1 d2 d3 HU3 HWW
    go_upto_region 13 with fail
    go_cut [65] from 58 to 65 (fun v wx => v = .bool (decide (k < nS ∧ k < 300)) ∧ wx = wr)
    case first =>
      by_cases hg1 : k < nS
      · have l1 : (k : Int) < (nS : Int) := by omega
        by_cases hg2 : k < 300
        · have l2 : (k : Int) < 300 := by omega
          go_wp2_with fail
          go_meet
          case rel => exact ⟨by simp [hg1, hg2], rfl⟩
        · have l2 : ¬ (k : Int) < 300 := by omega
          go_wp2_with fail
          go_meet
          case rel => exact ⟨by simp [hg2], rfl⟩
      · have l1 : ¬ (k : Int) < (nS : Int) := by omega
        go_wp2_with fail
        go_meet
        case rel => exact ⟨by simp [hg1], rfl⟩
    case rest =>
      obtain ⟨rfl, hwx⟩ := hcut
      rw [hwx]
      clear hwx
      by_cases hgo : k < nS ∧ k < 300
      · rw [decide_eq_true hgo]
        obtain ⟨o, hok⟩ : ∃ o, ops[k]? = some o := ⟨_, List.getElem?_eq_getElem (by rw [HO.out.2.1]; exact hgo.1)⟩
        have HSZ : Hid (o.a.t.size ≤ 281474976710656) := HO.out.2.2 o (List.mem_of_getElem? hok)
        have hlo : Below w0.heap.size w0 wr := by obtain ⟨P, V, tk, x, h, _⟩ := HS1.out; exact h.j.lo
        obtain ⟨b, off, rfl, hrg⟩ := H0.out.2.get hok
        have hld : (loadOp (.pointer (some ⟨b, off + k * 16, none⟩))).run Try.prog wr = .ok (opV o) wr := load_op (range_later hlo hrg)
        obtain ⟨w4, hw4⟩ : ∃ w4, wr.alloc (.cells (opC opZ).toArray 43) = w4 := ⟨_, rfl⟩
        obtain ⟨A, hA⟩ : ∃ A, wr.heap.size = A := ⟨_, rfl⟩
        obtain ⟨ob4, ok4, -⟩ := box_op hw4 hA
        have HW4 : Hid (wr.alloc (.cells #[.int .i64 0, .int .i64 0, .int .i64 0, .int .i64 0, .int .i64 0, .int .i64 0, .int .i64 0, .int .i64 0, .int .i64 0, .int .i64 0, .int .i64 0, .string ⟨#[]⟩, .int .u32 0, .int .i64 0, .bool false, .int .i64 0] 43) = w4) := hw4
        have HA4 : Hid (wr.heap.size = A) := hA
        have s4 := ob4.store o
        have ob5 := ob4.put o
        have ok5 := below_puts ok4 (Nat.le_of_eq hA) 0 (opC o)
        obtain ⟨w5, hw5⟩ : ∃ w5, w4.setCells A 0 (opC o) = w5 := ⟨_, rfl⟩
        rw [hw5] at s4 ob5 ok5
        have HS5 : Hid (ST w0 n bs ms jl W D B R k w5 ∧ OpB w5 A o) := (⟨HS1.out.later ok5, ob5⟩ : _ ∧ _)
        obtain ⟨e0, e13, -, -⟩ := ob5.cells
        have HM30 : Hid (∀ z v, Calls Try.prog 6 #[.int .i64 z, .int .i64 1073741824] v fun e w' => ∃ m : Nat, e = .returned (.int .i64 (m : Nat)) ∧ m < 1073741824 ∧ w' = v) := fun z v => mod_fn (n := 1073741824) v (by omega) (by omega)
        have HM4 : Hid (∀ z v, Calls Try.prog 6 #[.int .i64 z, .int .i64 4] v fun e w' => ∃ m : Nat, e = .returned (.int .i64 (m : Nat)) ∧ m < 4 ∧ w' = v) := fun z v => mod_fn (n := 4) v (by omega) (by omega)
        have lk : (k : Int) < (nS : Int) := by omega
        clear hok hrg hlo hw4 hA ob4 ok4 ob5 ok5 hw5 HS1
        go_upto_region 16 with (rw [HW4.out, HA4.out])
        clear hld s4
        go_wp2_with fail
        refine (HM30.out _ _).mono ?_
        rintro e v0 ⟨m1, rfl, hm1, hv⟩
        subst v0
        have ht2 : t + m1 ≤ (k + 1) * 1073741824 := by omega
        obtain ⟨t2, ht2e⟩ : ∃ t2, t + m1 = t2 := ⟨_, rfl⟩
        have hT : (t : Int) + (m1 : Int) = (t2 : Int) := by omega
        rw [ht2e] at ht2
        go_wp2_with fail
        refine (HM4.out _ _).mono ?_
        rintro e v0 ⟨m2, rfl, hm2, hv⟩
        subst v0
        clear hT ht2e hm1 HM30 HM4 e0 e13
        go_upto_block 2 with fail
        go_cut [11, 12, 13] from 80 to 135 (fun v11 v12 v13 wx => v11 = .bool true ∧ Hid (ST w0 n bs ms jl W D B R (k + 1) wx))
        case first =>
          rcases (by omega : m2 = 0 ∨ m2 = 1 ∨ m2 = 2 ∨ m2 = 3) with rfl | rfl | h23
          · obtain ⟨P, V, tk, x, hoi, hwb9⟩ := HS5.out.1
            have HWB : Hid (x.wt ≤ 2251799813685248) := hwb9
            clear hwb9
            obtain ⟨m, hm⟩ : ∃ m, P.length = m := ⟨_, rfl⟩
            obtain ⟨va, vc, hV, -⟩ := own_at hoi.j.p
            rw [hm] at hV
            obtain ⟨-, -, c4, c5, -, -, -⟩ := hoi.j.wb.cells
            rw [hV] at c4
            have cS := cell_later hoi.j.lo _ _ _ HC0.out
            have HI : Hid (OI w0 n bs ms jl W D B R P V tk x k w5 ∧ P.length = m ∧ V = .slice va m vc) := (⟨hoi, hm, hV⟩ : _ ∧ _ ∧ _)
            have hlen := hoi.len
            have htk := hoi.tk
            have hk9 := hoi.k
            rw [hm] at hlen htk hk9
            have g1 : ∀ q, (loadAl (.pointer (some ⟨A, 1, none⟩))).run Try.prog (w5.drewN q) = .ok (alV o.a) (w5.drewN q) := fun q => (HS5.out.2.later (drewN_below w5 q)).loada
            by_cases hf : m - tk = n
            · have f1 : (m : Int) - (tk : Int) = (n : Int) := by omega
              have f2 : ((m : Int) - (tk : Int) == (n : Int)) = true := by simp [f1]
              have HP : Hid (∀ q, Calls Try.prog 8 #[.pointer (some ⟨D, 0, none⟩), alV o.a] (w5.drewN q) fun e v => e = .returned (.int .i64 180) ∧ ST w0 n bs ms jl W D B R (k + 1) v) := fun q => by
                have hz := HI.out.1.later (drewN_below w5 q)
                obtain ⟨f, hd⟩ := hz.j.d
                refine (dpush_any hd o.a HSZ.out).mono fun e v z => ?_
                rw [if_pos (by omega), if_pos (by omega)] at z
                exact ⟨z.1, P, V, tk, x, ⟨hz.j.dcall z.2, hz.l, hz.tk, by have := HI.out.2.1; omega⟩, HWB.out⟩
              clear hoi hm hV hlen hf
              go_upto_region 21 with fail
              go_quiet (fail)
              go_wp2_with fail
              refine (HP.out _).mono ?_
              rintro e v9 ⟨rfl, hst⟩
              have HST9 : Hid (ST w0 n bs ms jl W D B R (k + 1) v9) := hst
              clear hst HP
              go_wp2_with fail
              go_meet
              case rel => exact ⟨rfl, HST9⟩
            · have f1 : ¬ (m : Int) - (tk : Int) = (n : Int) := by omega
              have f2 : ((m : Int) - (tk : Int) == (n : Int)) = false := by simp [f1]
              have HP : Hid (∀ q, Calls Try.prog 8 #[.pointer (some ⟨D, 0, none⟩), alV o.a] (w5.drewN q) fun e v => e = .returned (.int .i64 0) ∧ OJ w0 n bs ms jl W D B R P V tk x.wi x.tr x.wt ⟨x.l ++ [o.a], x.wi, x.rf, x.wt⟩ v ∧ OpB v A o) := fun q => by
                have hz := HI.out.1.later (drewN_below w5 q)
                obtain ⟨f, hd⟩ := hz.j.d
                refine (dpush_any hd o.a HSZ.out).mono fun e v z => ?_
                rw [if_neg (by omega), if_neg (by omega)] at z
                exact ⟨z.1, hz.j.dcall z.2, opB_dto (HS5.out.2.later (drewN_below w5 q)) hd z.2⟩
              have HL : Hid (x.l = P.drop tk ∧ tk ≤ m ∧ m ≤ k ∧ x.rf ≤ k ∧ k ≤ 300) := (⟨hoi.l, htk, hk9.1, hk9.2.1, hk3⟩ : _ ∧ _ ∧ _ ∧ _ ∧ _)
              clear hoi hm hV hlen hf
              go_upto_region 21 with fail
              go_quiet (fail)
              go_wp2_with fail
              refine (HP.out _).mono ?_
              rintro e v9 ⟨rfl, hoj, hob⟩
              obtain ⟨-, -, d4, -, -, -, -⟩ := hoj.wb.cells
              rw [HI.out.2.2] at d4
              have g9 : (loadAl (.pointer (some ⟨A, 1, none⟩))).run Try.prog v9.drew = .ok (alV o.a) v9.drew := hob.drew.loada
              have b9 := run_bsl o.a v9.drew
              have kb9 := below_step (tdrew1 v9) (below_new v9.drew (.cells (alC o.a).toArray 41))
              have h10 := hoj.later kb9
              have g10 := (hob.later kb9).loada
              have bx : AlB (v9.drew.alloc (.cells (alC o.a).toArray 41)) v9.heap.size o.a := alB_new v9.drew o.a
              obtain ⟨w10, hw10⟩ : ∃ w10, v9.drew.alloc (.cells (alC o.a).toArray 41) = w10 := ⟨_, rfl⟩
              rw [hw10] at b9 h10 g10 bx
              have b9 : (bslAl 1 #[(0, alV o.a)]).run Try.prog v9.drew = .ok (.slice (some ⟨v9.heap.size, 0, none⟩) 1 1) w10 := b9
              obtain ⟨-, -, d10, -, -, -, -⟩ := h10.wb.cells
              rw [HI.out.2.2] at d10
              obtain ⟨g, cap, w11, hap, how, hgr, hgg⟩ := run_appAl h10.p h10.lo.size (by have := HI.out.2.1; have := HL.out; omega) bx.range 32 (c := 1)
              rw [HI.out.2.1] at hap how
              rw [HI.out.2.2] at hap
              have hPl : (P ++ [o.a]).length = m + 1 := by rw [List.length_append, HI.out.2.1]; rfl
              have hgr2 := h10.grown (P' := P ++ [o.a]) (g := g) (c := cap) (by rw [hPl] at how ⊢; exact how) hgr hgg
              rw [hPl] at hgr2
              have kW : w11.heap[W]? = w10.heap[W]? := hgr.block W h10.wb.lt (fun e => (h10.ne.2.2.2 W e.symm).1 rfl)
              have d11 : w11.cell? ⟨W, 4, none⟩ = some (.slice va m vc) := (World.cell?_of_block (a := ⟨W, 4, none⟩) kW).trans d10
              have q11 : w11.frozen? ⟨W, 4, none⟩ = false := (h10.wb.same kW).frozen 4
              have HF : Hid (ST w0 n bs ms jl W D B R (k + 1) (w11.setCell ⟨W, 4, none⟩ (.slice (some ⟨g, 0, none⟩) (m + 1) cap))) := by
                obtain ⟨y1, y2, y3, y4, y5⟩ := HL.out
                exact ⟨P ++ [o.a], _, tk, ⟨x.l ++ [o.a], x.wi, x.rf, x.wt⟩, ⟨hgr2, by
                  show x.l ++ [o.a] = (P ++ [o.a]).drop tk
                  rw [List.drop_append_of_le_length (by rw [HI.out.2.1]; exact y2), y1], by rw [hPl]; omega, by rw [hPl]; show m + 1 ≤ k + 1 ∧ x.rf ≤ k + 1 ∧ k + 1 ≤ 1000; omega⟩, HWB.out⟩
              clear hoj hob h10 bx hw10 how hgr hgg hPl hgr2 kW HP c4 c5
              go_upto_region 25 with fail
              go_region
              go_wp2_with fail
              go_meet
              case rel => exact ⟨rfl, HF⟩
          · have HSE : Hid (Calls Try.prog 9 #[.pointer (some ⟨W, 0, none⟩), .pointer (some ⟨D, 0, none⟩), .int .i64 (t2 : Nat)] w5 _) := HS5.out.1.send (t := t2) (by omega)
            go_wp2_with fail
            refine HSE.out.mono ?_
            rintro e v9 ⟨rfl, hst⟩
            have HST9 : Hid (ST w0 n bs ms jl W D B R (k + 1) v9) := hst.mono (by omega) (by omega)
            clear hst HSE
            go_wp2_with fail
            go_meet
            case rel => exact ⟨rfl, HST9⟩
          · have HSE : Hid (Calls Try.prog 10 #[.pointer (some ⟨W, 0, none⟩), .pointer (some ⟨D, 0, none⟩), opV o, .int .i64 (t2 : Nat)] w5 _) := HS5.out.1.answer (by omega) (t := t2) (by omega) o
            have lo5 := HS5.out.2.load
            rcases h23 with rfl | rfl
            all_goals
              go_wp2_with fail
              refine HSE.out.mono ?_
              rintro e v9 ⟨rfl, hst⟩
              have HST9 : Hid (ST w0 n bs ms jl W D B R (k + 1) v9) := hst
              clear hst HSE
              go_wp2_with fail
              go_meet
              case rel => exact ⟨rfl, HST9⟩
        case rest =>
          obtain ⟨rfl, HST9⟩ := hcut
          obtain ⟨P, V, tk, x, hoi, hwb9⟩ := HST9.out
          have HWB : Hid (x.wt ≤ 2251799813685248) := hwb9
          clear hwb9
          obtain ⟨m, hm⟩ : ∃ m, P.length = m := ⟨_, rfl⟩
          obtain ⟨va, vc, hV, -⟩ := own_at hoi.j.p
          obtain ⟨a7, c7, hsl, hat⟩ := run_cut hoi.j.p hoi.tk
          rw [hm] at hV hsl
          rw [hV] at hsl
          obtain ⟨-, -, c4, c5, -, -, c8⟩ := hoi.j.wb.cells
          rw [hV] at c4
          have hlen := hoi.len
          rw [hm] at hlen
          obtain ⟨f, hd⟩ := hoi.j.d
          have hx64 : x.l.length ≤ n := hd.r.l
          obtain ⟨q7, hq7⟩ : ∃ q7, m - tk = q7 := ⟨_, rfl⟩
          rw [hq7] at hsl hlen
          rw [← hoi.l] at hat
          have HI : Hid (OI w0 n bs ms jl W D B R P V tk x (k + 1) wc ∧ AlAt wc a7 x.l ∧ x.l.length = q7) := (⟨hoi, hat, hlen⟩ : _ ∧ _ ∧ _)
          have hq64 : q7 ≤ 64 := by omega
          have l9 : tk ≤ m := by have := hoi.tk; omega
          clear hoi hm hV hlen hat hd hx64 hq7 HS5 HSZ
          go_upto_region 28 with fail
          go_quiet (fail)
          have h29 := HI.out.1.later (drewN_below wc nq)
          obtain ⟨f, hd⟩ := h29.j.d
          have HB : Hid (Below w0.heap.size w0 (wc.drewN nq)) := h29.j.lo
          have cS := cell_later h29.j.lo _ _ _ HC0.out
          obtain ⟨-, -, -, -, -, -, c9⟩ := h29.j.wb.cells
          have hfb : ((q7 : Int) == (n : Int)) = decide (q7 = n) := by
            by_cases e : q7 = n
            · simp [e]
            · simp [e]; omega
          have HR : Hid (OI w0 n bs ms jl W D B R P V tk x (k + 1) (wc.drewN nq) ∧ x.wt ≤ 2251799813685248) := (⟨h29, HWB.out⟩ : _ ∧ _)
          have hat9 := HI.out.2.1.later (drewN_below wc nq)
          have hxq := HI.out.2.2
          clear h29 hsl c4 c5 c8
          go_upto_region 29 with fail
          refine reg29 (new := fun A2 => #[Value.agg #[Value.int IntKind.i64 z0, Value.int IntKind.i64 z1, Value.int IntKind.i64 z2, Value.int IntKind.i64 z3], Value.slice (some { block := b, off := off }) nS c, Value.pointer (some { block := S, off := 0 }), undef, u4, Value.pointer (some { block := D, off := 0 }), Value.int IntKind.i64 0, Value.pointer (some { block := W, off := 0 }), Value.int IntKind.i64 ↑t2, Value.int IntKind.i64 ↑k, Value.pointer (some { block := A, off := 0 }), Value.bool true, u12, u13, Value.slice a7 q7 c7, undef, undef, undef, Value.bool true, Value.bool false, Value.pointer (some { block := S, off := 0 }), Value.int IntKind.i64 z0, Value.int IntKind.i64 ↑m0, Value.int IntKind.i64 ↑n, Value.pointer (some { block := S, off := 0 }), Value.pointer (some { block := S, off := 1 }), Value.int IntKind.i64 z1, Value.int IntKind.i64 ↑bs, Value.pointer (some { block := S, off := 1 }), Value.pointer (some { block := S, off := 2 }), Value.int IntKind.i64 z2, Value.int IntKind.i64 ↑ms, Value.pointer (some { block := S, off := 2 }), Value.pointer (some { block := S, off := 3 }), Value.int IntKind.i64 z3, Value.int IntKind.i64 ↑jl, Value.pointer (some { block := S, off := 3 }), Value.tuple #[Value.pointer (some { block := D, off := 0 }), Value.int IntKind.i64 0], Value.pointer (some { block := S, off := 0 }), Value.int IntKind.i64 ↑n, Value.pointer (some { block := S, off := 1 }), Value.int IntKind.i64 ↑bs, Value.pointer (some { block := S, off := 2 }), Value.int IntKind.i64 ↑ms, Value.pointer (some { block := S, off := 3 }), Value.int IntKind.i64 ↑jl, Value.tuple #[Value.pointer (some { block := D, off := 0 }), Value.int IntKind.i64 0], Value.pointer (some { block := D, off := 0 }), Value.int IntKind.i64 0, Value.int IntKind.i64 0, Value.bool false, Value.bool false, Value.pointer (some { block := D, off := 0 }), Value.bool false, Value.bool false, Value.agg #[Value.int IntKind.i64 ↑n, Value.int IntKind.i64 ↑bs, Value.int IntKind.i64 ↑ms, Value.int IntKind.i64 ↑jl], Value.agg #[Value.int IntKind.i64 ↑n, Value.int IntKind.i64 ↑bs, Value.int IntKind.i64 ↑ms, Value.int IntKind.i64 ↑jl, Value.slice none 0 0, Value.int IntKind.i64 0, Value.bool false, Value.int IntKind.i64 0, Value.int IntKind.i64 0], Value.pointer (some { block := W, off := 0 }), u58, u59, u60, u61, u62, u63, u64, Value.bool true, u66, u67, Value.slice (some { block := b, off := off }) nS c, Value.int IntKind.i64 ↑k, Value.pointer (some { block := b, off := off + k * 16 }), opV o, Value.int IntKind.i64 ↑t, Value.pointer (some { block := A, off := 13 }), Value.int IntKind.i64 o.now, Value.int IntKind.i64 ↑m1, Value.int IntKind.i64 ↑t2, Value.pointer (some { block := A, off := 0 }), Value.int IntKind.i64 o.k, Value.int IntKind.i64 ↑m2, u80, u81, u82, u83, u84, u85, u86, u87, u88, u89, u90, u91, u92, u93, u94, u95, u96, u97, u98, u99, u100, u101, u102, u103, u104, u105, u106, u107, u108, u109, u110, u111, u112, u113, u114, u115, u116, u117, u118, u119, u120, u121, u122, u123, u124, u125, u126, u127, u128, u129, u130, u131, u132, u133, u134, Value.pointer (some { block := W, off := 0 }), Value.pointer (some { block := W, off := 0 }), Value.pointer (some { block := W, off := 4 }), Value.slice va m vc, Value.pointer (some { block := W, off := 0 }), Value.pointer (some { block := W, off := 0 }), Value.pointer (some { block := W, off := 5 }), Value.int IntKind.i64 ↑tk, Value.slice a7 q7 c7, .bool true, .bool false, .bool false, .pointer (some ⟨D, 0, none⟩), .slice (some ⟨A2, 0, none⟩) q7 q7, .slice a7 q7 c7, .bool true, .bool false, .bool false, .bool false, .pointer (some ⟨D, 0, none⟩), .bool (decide (q7 = n)), .slice a7 q7 c7, .int .i64 (q7 : Nat), .pointer (some ⟨S, 0, none⟩), .int .i64 (n : Nat), .bool (decide (q7 = n)), .bool false, .bool false, .bool false, .pointer (some ⟨D, 0, none⟩), .int .i64 (x.wt : Nat), .pointer (some ⟨W, 0, none⟩), .pointer (some ⟨W, 0, none⟩), .pointer (some ⟨W, 8, none⟩), .int .i64 (x.wt : Nat), .bool false, .bool false, undef, undef, undef, undef, undef, undef, undef, undef, undef, undef, undef, undef, undef, undef, undef, undef, undef, undef, undef, undef, undef, undef, undef, undef, undef, undef, undef, undef, undef, undef, undef, undef, undef, undef, undef, undef, undef, undef, undef, undef, undef, undef, undef, undef, undef, undef, undef, undef, undef, undef, undef, undef, undef, undef, undef, undef, undef, undef, undef, undef, undef, undef, undef]) D W S q7 n x.wt c7 a7 (decide (q7 = n)) x.l (by kernel_rfl) rfl rfl rfl rfl rfl rfl hxq hq64 hfb hat9 cS c9 (fun u hb => ?_) (fun u hb => ?_) (fun u hb => ?_) (fun A2 => rfl) (fun A2 w9 k9 => ?_)
          · refine (queue_any (hd.later hb)).mono fun e v z => ?_
            obtain ⟨A2, z1, z2, z3, z4⟩ := z
            exact ⟨A2, by rw [z1, hxq], z4, by have := z2.at; exact this⟩
          · refine (dfull_any (hd.later hb)).mono fun e v z => ?_
            obtain ⟨z1, z2⟩ := z
            subst z2
            exact ⟨by rw [z1, hxq], tdrew1 u⟩
          · refine (wait_any (hd.later hb)).mono fun e v z => ?_
            obtain ⟨z1, z2⟩ := z
            subst z2
            exact ⟨z1, Below.refl _ _⟩
          have HSN : Hid (ST w0 n bs ms jl W D B R (k + 1) w9) := ⟨P, V, tk, x, HR.out.1.later k9, HR.out.2⟩
          clear hd cS c9 hfb hat9 hxq k9 HR
          dsimp only
          go_wp2_with fail
          go_roundw
          case rel => exact ⟨k + 1, t2, by go_num, rfl, by omega, by omega, by omega, HSN⟩
          case measure => simp [Go.RowKit.intOf]; omega
      · rw [decide_eq_false hgo]
        obtain ⟨P0, V0, tk0, x0, hoi, hwb9⟩ := HS1.out
        have HOI : Hid (OI w0 n bs ms jl W D B R P0 V0 tk0 x0 k wr ∧ x0.wt ≤ 2251799813685248) := (⟨hoi, hwb9⟩ : _ ∧ _)
        obtain ⟨-, -, -, -, c6, -, -⟩ := hoi.j.wb.cells
        have ht9 : t ≤ 322122547200 := by omega
        clear hoi hwb9 HS1 ht
        go_upto_region 31 with fail
        go_cut [183] from 172 to 184 (fun v wx => v = .bool false ∧ Hid (∃ P V tk x, OI w0 n bs ms jl W D B R P V tk x k wx ∧ x.wt ≤ 2251799813685248 ∧ x.wi = false))
        case first =>
          cases hw : x0.wi with
          | false =>
            rw [hw] at c6
            have HE : Hid (∃ P V tk x, OI w0 n bs ms jl W D B R P V tk x k wr ∧ x.wt ≤ 2251799813685248 ∧ x.wi = false) := ⟨P0, V0, tk0, x0, HOI.out.1, HOI.out.2, hw⟩
            clear hw
            go_wp2_with fail
            go_meet
            case rel => exact ⟨rfl, HE⟩
          | true =>
            rw [hw] at c6
            have HAN : Hid (Calls Try.prog 10 #[.pointer (some ⟨W, 0, none⟩), .pointer (some ⟨D, 0, none⟩), .agg #[.int .i64 0, .int .i64 0, .int .i64 0, .int .i64 0, .int .i64 0, .int .i64 0, .int .i64 0, .int .i64 0, .int .i64 0, .int .i64 0, .int .i64 0, .string ⟨#[]⟩, .int .u32 0, .int .i64 0, .bool true, .int .i64 0], .int .i64 (t : Nat)] wr fun e v => e = .returned (.bool true) ∧ (∃ P V tk x, OI w0 n bs ms jl W D B R P V tk x k v ∧ x.wt ≤ 2251799813685248 ∧ x.wi = false)) := (wans_yes HOI.out.1 opY hw rfl).mono fun e v z => ⟨z.1, _, _, _, _, z.2, Nat.zero_le _, rfl⟩
            clear hw
            go_wp2_with fail
            refine HAN.out.mono ?_
            rintro e v9 ⟨rfl, hz⟩
            have HE : Hid (∃ P V tk x, OI w0 n bs ms jl W D B R P V tk x k v9 ∧ x.wt ≤ 2251799813685248 ∧ x.wi = false) := hz
            clear hz HAN
            go_wp2_with fail
            go_meet
            case rel => exact ⟨rfl, HE⟩
        case rest =>
          obtain ⟨rfl, HE⟩ := hcut
          obtain ⟨P, V, tk1, x1, hoi, hwb, hwi⟩ := HE.out
          obtain ⟨-, -, -, -, -, -, c8⟩ := hoi.j.wb.cells
          obtain ⟨wt, hwt⟩ : ∃ wt, x1.wt = wt := ⟨_, rfl⟩
          rw [hwt] at c8 hwb
          obtain ⟨t3, ht3⟩ : ∃ t3, max t wt = t3 := ⟨_, rfl⟩
          have hmx : max (t : Int) (wt : Int) = (t3 : Int) := by omega
          have hb3 : t3 ≤ 2305843009213693952 := by omega
          obtain ⟨m, hm⟩ : ∃ m, P.length = m := ⟨_, rfl⟩
          have hm9 : m ≤ 1000 := by have := hoi.k; omega
          obtain ⟨va, vc, hV, -⟩ := own_at hoi.j.p
          rw [hm] at hV
          have HPV : Hid (P.length = m ∧ V = .slice va m vc) := (⟨hm, hV⟩ : _ ∧ _)
          have HE0 : Hid (∃ tk x, OI w0 n bs ms jl W D B R P V tk x k wc ∧ x.wi = false ∧ x.wt ≤ t3) := ⟨tk1, x1, hoi, hwi, by omega⟩
          clear hoi hwi hwt ht3 hwb hm hV HE HOI
          go_wp2_with fail
          go_loopw [] (fun u => Hid (∃ tk x, OI w0 n bs ms jl W D B R P V tk x k u ∧ x.wi = false ∧ x.wt ≤ t3)) (fun u => m - (match u.cell? ⟨W, 5, none⟩ with | some v => (Go.RowKit.intOf v).toNat | none => 0))
          case atStart => exact HE0
          case round =>
            have HL := hrel
            obtain ⟨tk, x, hoi, hwi, hwt⟩ := HL.out
            obtain ⟨-, -, c4, c5, c6, -, c8⟩ := hoi.j.wb.cells
            rw [HPV.out.2] at c4
            rw [hwi] at c6
            have htk := hoi.tk
            have hlen := hoi.len
            rw [HPV.out.1] at htk hlen
            have HI : Hid (OI w0 n bs ms jl W D B R P V tk x k wr ∧ x.wi = false ∧ x.wt ≤ t3 ∧ x.l.length = m - tk) := (⟨hoi, hwi, hwt, hlen⟩ : _ ∧ _ ∧ _ ∧ _)
            clear hoi hwi hwt hlen HE0 HL
            by_cases hlt : tk < m
            · have l1 : (tk : Int) < (m : Int) := by omega
              have hmay : x.may t3 = true := by
                obtain ⟨-, y1, y2, y3⟩ := HI.out
                unfold De.may
                rw [y1, decide_eq_true (show 0 < x.l.length by omega), decide_eq_true y2]
                rfl
              have HSE : Hid (∀ q, Calls Try.prog 9 #[.pointer (some ⟨W, 0, none⟩), .pointer (some ⟨D, 0, none⟩), .int .i64 (t3 : Nat)] (wr.drewN q) _) := fun q => wsend_yes (HI.out.1.later (drewN_below wr q)) hb3 hmay
              clear hmay
              go_upto_region 34 with fail
              go_quiet (fail)
              clear c4 c6 c8
              go_wp2_with fail
              refine (HSE.out _).mono ?_
              rintro e v1 ⟨rfl, h1⟩
              obtain ⟨-, -, -, -, d6, -, -⟩ := h1.j.wb.cells
              have d6 : v1.cell? ⟨W, 6, none⟩ = some (.bool true) := d6
              have HAN : Hid (Calls Try.prog 10 #[.pointer (some ⟨W, 0, none⟩), .pointer (some ⟨D, 0, none⟩), .agg #[.int .i64 0, .int .i64 0, .int .i64 0, .int .i64 0, .int .i64 0, .int .i64 0, .int .i64 0, .int .i64 0, .int .i64 0, .int .i64 0, .int .i64 0, .string ⟨#[]⟩, .int .u32 0, .int .i64 0, .bool true, .int .i64 0], .int .i64 (t3 : Nat)] v1 _) := wans_yes (t := t3) h1 opY rfl rfl
              clear h1 HSE
              go_wp2_with fail
              refine HAN.out.mono ?_
              rintro e v2 ⟨rfl, h2⟩
              obtain ⟨-, -, -, x5, -, -, -⟩ := h2.j.wb.cells
              have HO2 : Hid (OI w0 n bs ms jl W D B R P V (tk + 1) ⟨P.drop (tk + 1), false, 0, 0⟩ k v2) := h2
              clear h2 HAN d6
              go_wp2_with fail
              go_roundw
              case rel => exact ⟨tk + 1, _, HO2.out, rfl, Nat.zero_le _⟩
              case measure =>
                simp only [c5, x5]
                show m - (Int.toNat ((tk + 1 : Nat) : Int)) < m - (Int.toNat ((tk : Nat) : Int))
                rw [Int.toNat_natCast, Int.toNat_natCast]
                omega
            · have l1 : ¬ (tk : Int) < (m : Int) := by omega
              have hmay : x.may t3 = false := by
                obtain ⟨-, y1, y2, y3⟩ := HI.out
                unfold De.may
                rw [decide_eq_false (show ¬ 0 < x.l.length by omega)]
                rfl
              have HSD : Hid (∀ q, Calls Try.prog 15 #[.pointer (some ⟨D, 0, none⟩), .int .i64 (t3 : Nat)] (wr.drewN q) fun e v => e = .returned (.tuple #[alV alZ, .int .i64 0, .bool false]) ∧ OI w0 n bs ms jl W D B R P V tk x k v) := fun q => by
                have hz := HI.out.1.later (drewN_below wr q)
                obtain ⟨f, hd⟩ := hz.j.d
                exact (Send_no hd (t3 : Nat) (by rw [mo_nat hb3]; exact hmay)).mono fun e v z => ⟨z.1, hz.j.dcall z.2, hz.l, hz.tk, hz.k⟩
              have HX0 : Hid (x.l.length = 0) := by show _ = _; have := HI.out.2.2.2; omega
              clear hmay
              go_upto_region 34 with fail
              go_quiet (fail)
              clear c4 c5 c6 c8
              go_wp2_with fail
              refine (HSD.out _).mono ?_
              rintro e v1 ⟨rfl, h1⟩
              obtain ⟨w4, hw4⟩ : ∃ w4, v1.alloc (.cells (alC alZ).toArray 41) = w4 := ⟨_, rfl⟩
              obtain ⟨A4, hA4⟩ : ∃ A4, v1.heap.size = A4 := ⟨_, rfl⟩
              obtain ⟨b4, k4, -⟩ := zal_new hw4 hA4
              have HW4 : Hid (v1.alloc (.cells #[.int .i64 0, .int .i64 0, .int .i64 0, .int .i64 0, .int .i64 0, .int .i64 0, .int .i64 0, .int .i64 0, .int .i64 0, .int .i64 0, .string ⟨#[]⟩, .int .u32 0] 41) = w4) := hw4
              have HA4 : Hid (v1.heap.size = A4) := hA4
              have s4 := b4.store alZ
              have k5 := h1.later (below_puts k4 (Nat.le_of_eq hA4) 0 (alC alZ))
              obtain ⟨w5, hw5⟩ : ∃ w5, w4.setCells A4 0 (alC alZ) = w5 := ⟨_, rfl⟩
              rw [hw5] at s4 k5
              obtain ⟨f, hd⟩ := k5.j.d
              have HQ : Hid (Calls Try.prog 12 #[.pointer (some ⟨D, 0, none⟩)] w5 fun e v => ∃ A2, e = .returned (.slice (some ⟨A2, 0, none⟩) 0 0) ∧ Below w.heap.size w v) := (queue_any hd).mono fun e v z => by
                obtain ⟨A2, z1, z2, z3, z4⟩ := z
                exact ⟨A2, by rw [z1, HX0.out], below_step (below_step H0.out.1 k5.j.lo) z4⟩
              clear hw4 hA4 b4 k4 k5 hw5 hd h1 HSD
              go_upto_region 38 with (rw [HW4.out, HA4.out])
              go_wp2_with fail
              refine HQ.out.mono ?_
              rintro e v9 ⟨A2, rfl, hz⟩
              have HZ : Hid (Below w.heap.size w v9) := hz
              clear hz HQ
              go_wp2
              go_ret
              exact ⟨rfl, HZ.out⟩
end Go.Proofs.Ytmdhlaccioaomaa
