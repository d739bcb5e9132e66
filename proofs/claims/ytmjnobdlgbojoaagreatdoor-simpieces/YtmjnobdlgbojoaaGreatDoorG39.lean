
import Derived.Test.YtmjnobdlgbojoaaGreatDoorG20
namespace Go.Proofs.YtmjnobdlgbojoaaGreatDoor
open Go.RowKit
attribute [local go_sem ↓] Go.wp_at_zero Go.wp_at_succ
set_option maxRecDepth 4000 in
set_option maxHeartbeats 4000000 in
theorem union1_any (M : Ma) (x : Nf) (w : World) (hx : MaAt (fun _ => True) w M x) (he : M.es.length ≤ 10000000) (hr : M.rs.length ≤ 10000000) : Calls Tryz.prog 24 #[x.val] w fun e w' => e = .returned (.bool (!rightOf M)) ∧ Below w.heap.size w w' := by
  have kk : Below w.heap.size w (w.alloc (.cells #[.int .i64 x.S, .slice x.ea x.en x.ec, .slice x.ra x.rn x.rc] 37)) := (Below.refl _ _).alloc (Nat.le_refl _) _
  have HNX : Hid (NFB (w.alloc (.cells #[.int .i64 x.S, .slice x.ea x.en x.ec, .slice x.ra x.rn x.rc] 37)) w.heap.size x) := nfb_new w x
  have HB : Hid (Below w.heap.size w (w.alloc (.cells #[.int .i64 x.S, .slice x.ea x.en x.ec, .slice x.ra x.rn x.rc] 37))) := kk
  have HC : Hid (Calls Tryz.prog 25 #[x.val] (w.alloc (.cells #[.int .i64 x.S, .slice x.ea x.en x.ec, .slice x.ra x.rn x.rc] 37)) _) := pright_any M x (w.alloc (.cells #[.int .i64 x.S, .slice x.ea x.en x.ec, .slice x.ra x.rn x.rc] 37)) (hx.later kk) (by omega) (by omega)
  obtain ⟨w2, hw2⟩ : ∃ w2, w.alloc (.cells #[.int .i64 x.S, .slice x.ea x.en x.ec, .slice x.ra x.rn x.rc] 37) = w2 := ⟨_, rfl⟩
  rw [hw2] at HNX HB HC
  obtain ⟨A, hA⟩ : ∃ A, w.heap.size = A := ⟨_, rfl⟩
  rw [hA] at HNX
  have HW2 : Hid (w.alloc (.cells #[.int .i64 x.S, .slice x.ea x.en x.ec, .slice x.ra x.rn x.rc] 37) = w2) := hw2
  have HAA : Hid (w.heap.size = A) := hA
  clear hw2 hA kk hx he hr
  obtain ⟨x0, x1, x2⟩ := HNX.out.cells
  obtain ⟨v, hv⟩ : ∃ v, rightOf M = v := ⟨_, rfl⟩
  rw [hv] at HC ⊢
  clear hv
  unfold Nf.val at HC
  unfold Nf.val
  go_enter Tryz.func24, Tryz.ntmps24
  go_upto_region 1 with fail
  rw [HW2.out, HAA.out]
  clear HW2
  go_wp2_with fail
  refine HC.out.mono ?_
  rintro r w3 ⟨rfl, k3⟩
  have HB3 : Hid (Below w.heap.size w w3) := below_step HB.out k3
  clear k3 HC
  go_wp2
  go_ret
  exact ⟨rfl, HB3.out⟩
set_option maxRecDepth 4000 in
set_option maxHeartbeats 8000000 in
theorem indexM_any (Ms : List Ma) (xs : List Nf) (a : Option Addr) (N c : Nat) (w : World) (hN : Ms.length = N) (hm : N ≤ 10000000) (hl : ListAt w a Ms xs) (hs : ∀ M ∈ Ms, M.es.length ≤ 10000000 ∧ M.rs.length ≤ 10000000) : Calls Tryz.prog 51 #[.slice a N c, .func (.func 24) #[] #[]] w fun r w' => ∃ i : Int, r = .returned (.int .i64 i) ∧ decide (0 ≤ i) = (!Ms.all rightOf) ∧ Below w.heap.size w w' := by
  have HL : Hid (ListAt w a Ms xs) := hl
  have HN : Hid (Ms.length = N) := hN
  have HXN : Hid (xs.length = N) := hl.len.trans hN
  have HHAS : Hid (∀ M ∈ Ms, M.es.length ≤ 10000000 ∧ M.rs.length ≤ 10000000) := hs
  clear hl hN hs
  go_enter Tryz.func51, Tryz.ntmps51
  go_wp2_with fail
  go_loopw [8] (fun i u => ∃ j : Nat, i = .int .i64 (j : Nat) ∧ j ≤ N ∧ Hid ((Ms.take j).all rightOf = true) ∧ Hid (Below w.heap.size w u)) (fun i _ => N - (intOf i).toNat)
  case atStart => exact ⟨0, rfl, Nat.zero_le _, by show _ = _; simp, Below.refl _ _⟩
  case round =>
    obtain ⟨j, rfl, hjn, HAL, HB⟩ := hrel
    by_cases hlt : j < N
    · have hlt' : (j : Int) < (N : Int) := by omega
      obtain ⟨M, hM⟩ : ∃ M, Ms[j]? = some M := ⟨_, List.getElem?_eq_getElem (by rw [HN.out]; exact hlt)⟩
      obtain ⟨y, hy⟩ : ∃ y, xs[j]? = some y := ⟨_, List.getElem?_eq_getElem (by rw [HXN.out]; exact hlt)⟩
      have HLr := HL.out.later HB.out
      have HMr : Hid (MaAt (fun _ => True) wr M y) := HLr.ma j M y hM hy
      obtain ⟨b, off, rfl, p0, p1, p2⟩ := HLr.at_.nth hy
      have HC : Hid (Calls Tryz.prog 24 #[y.val] wr _) := union1_any M y wr HMr.out (HHAS.out M (List.mem_of_getElem? hM)).1 (HHAS.out M (List.mem_of_getElem? hM)).2
      have HTA : Hid ((Ms.take (j + 1)).all rightOf = rightOf M) := by
        show _ = _
        rw [List.take_add_one, hM, List.all_append, HAL.out]
        simp
      have HNO : Hid (rightOf M = false → Ms.all rightOf = false) := fun h => by
        rw [List.all_eq_false]
        exact ⟨M, List.mem_of_getElem? hM, by simp [h]⟩
      obtain ⟨ok, hok⟩ : ∃ ok, rightOf M = ok := ⟨_, rfl⟩
      rw [hok] at HC HTA HNO
      clear hok hM hy HLr
      unfold Nf.val at HC
      go_wp2_with fail
      refine HC.out.mono ?_
      rintro r w2 ⟨rfl, k2⟩
      have HB2 : Hid (Below w.heap.size w w2) := below_step HB.out k2
      clear k2 HC HB p0 p1 p2
      cases ok with
      | true =>
        go_wp2
        go_roundw
        case rel => exact ⟨j + 1, by go_num, by omega, HTA, HB2⟩
        case measure => simp [intOf]; omega
      | false =>
        have HF := HNO.out rfl
        go_wp2
        go_ret
        exact ⟨(j : Int), rfl, by rw [HF]; simp, HB2.out⟩
    · have hlt' : ¬ (j : Int) < (N : Int) := by omega
      have HF : Hid (Ms.all rightOf = true) := by
        show _ = _
        rw [← HAL.out, List.take_of_length_le (by rw [HN.out]; omega)]
      go_wp2
      go_ret
      exact ⟨-1, rfl, by rw [HF.out]; decide, HB.out⟩
set_option maxRecDepth 4000 in
theorem containsM_any (Ms : List Ma) (xs : List Nf) (a : Option Addr) (N c : Nat) (w : World) (hN : Ms.length = N) (hm : N ≤ 10000000) (hl : ListAt w a Ms xs) (hs : ∀ M ∈ Ms, M.es.length ≤ 10000000 ∧ M.rs.length ≤ 10000000) : Calls Tryz.prog 23 #[.slice a N c, .func (.func 24) #[] #[]] w fun r w' => r = .returned (.bool (!Ms.all rightOf)) ∧ Below w.heap.size w w' := by
  have HC : Hid (Calls Tryz.prog 51 #[.slice a N c, .func (.func 24) #[] #[]] w _) := indexM_any Ms xs a N c w hN hm hl hs
  clear hN hm hl hs
  go_enter Tryz.func23, Tryz.ntmps23
  go_wp2_with fail
  refine HC.out.mono ?_
  rintro r w2 ⟨i, rfl, hi, k2⟩
  have HI : Hid (decide (0 ≤ i) = (!Ms.all rightOf)) := hi
  have HB : Hid (Below w.heap.size w w2) := k2
  clear hi k2 HC
  by_cases h0 : 0 ≤ i
  · have h1 : decide (0 ≤ i) = true := by simp [h0]
    go_wp2
    go_ret
    exact ⟨by rw [← HI.out, h1]; rfl, HB.out⟩
  · have h1 : decide (0 ≤ i) = false := by simp [h0]
    go_wp2
    go_ret
    exact ⟨by rw [← HI.out, h1]; rfl, HB.out⟩
theorem res_punion {tmps : Array Value} {w : World} {R : Nat} {y : Nf} {v5 : Value} (h4 : tmps[2]?.getD undef = .pointer (some ⟨R, 0, none⟩)) (h5 : tmps[3]?.getD undef = v5) (hR : NFB w R y) : (results Tryz.f7 tmps).run Tryz.prog w = .ok (.tuple #[y.val, v5]) w := by
  obtain ⟨t0, t1, t2⟩ := hR.cells
  unfold Nf.val
  simp [results, Tryz.results7, go_sem, h4, h5, t0, t1, t2]
theorem post_punion {Q : Ending → World → Prop} {a : Act} {w : World} {R : Nat} {y : Nf} {v5 : Value} (hd : a.defers = []) (h4 : a.tmps[2]?.getD undef = .pointer (some ⟨R, 0, none⟩)) (h5 : a.tmps[3]?.getD undef = v5) (hR : NFB w R y) (hQ : Q (.returned (.tuple #[y.val, v5])) w) : bodyPost Tryz.prog Tryz.f7 Q .ret a w :=
  bodyPost_ret (res_punion h4 h5 hR) hd hQ
theorem un_begin {w u : World} {R : Nat} (hb : Below w.heap.size w u) (hR : NFB u R ⟨0, none, 0, 0, none, 0, 0⟩) (hR0 : w.heap.size ≤ R) : Un w (u.heap.size + 1) R ((u.alloc (.cells #[.int .u32 0] 44)).alloc (.cells #[.int .i64 1, .slice none 0 0, .slice (some ⟨u.heap.size, 0, none⟩) 1 1] 37)) ⟨1, none, 0, 0, some ⟨u.heap.size, 0, none⟩, 1, 1⟩ ⟨1, [], [0]⟩ := by
  have k2 : Below u.heap.size u (u.alloc (.cells #[.int .u32 0] 44)) := (Below.refl _ _).alloc (Nat.le_refl _) _
  have s2 : (u.alloc (.cells #[.int .u32 0] 44)).heap.size = u.heap.size + 1 := by simp
  have k3 : Below (u.alloc (.cells #[.int .u32 0] 44)).heap.size (u.alloc (.cells #[.int .u32 0] 44)) ((u.alloc (.cells #[.int .u32 0] 44)).alloc (.cells #[.int .i64 1, .slice none 0 0, .slice (some ⟨u.heap.size, 0, none⟩) 1 1] 37)) := (Below.refl _ _).alloc (Nat.le_refl _) _
  have hlt := hR.lt
  have hsz := hb.size
  refine ⟨?_, (hR.later k2).later k3, rfl, rowE_nil _ _, ?_, below_step (below_step hb k2) k3, by omega, hR0, by omega⟩
  · have h := nfb_new (u.alloc (.cells #[.int .u32 0] 44)) ⟨1, none, 0, 0, some ⟨u.heap.size, 0, none⟩, 1, 1⟩
    rw [s2] at h
    exact h
  · have h : RowU (u.alloc (.cells #[.int .u32 0] 44)) w.heap.size (.slice (some ⟨u.heap.size, 0, none⟩) 1 1) [0] :=
      ⟨rfl, Or.inr ⟨u.heap.size, 1, #[.int .u32 0], rfl, hsz, heap_alloc_new u _, Nat.le_refl _, by decide, rfl, rfl⟩⟩
    exact h.later k3
set_option maxRecDepth 4000 in
set_option maxHeartbeats 32000000 in
theorem punion_any {Ms : List Ma} {xs : List Nf} {a : Option Addr} {c : Nat} (w : World) (h : ListAt w a Ms xs) (hn : Ms.length ≤ 10000000) (hbE : (unions Ms ⟨1, [], [0]⟩).es.length ≤ 10000000) (hbR : (unions Ms ⟨1, [], [0]⟩).rs.length ≤ 10000000) : Calls Tryz.prog 7 #[.slice a Ms.length c] w (UnionPost w Ms) := by
  have HL : Hid (ListAt w a Ms xs) := h
  obtain ⟨N, hN⟩ : ∃ N, Ms.length = N := ⟨_, rfl⟩
  have HN : Hid (Ms.length = N) := hN
  have HXN : Hid (xs.length = N) := h.len.trans hN
  rw [hN] at hn ⊢
  obtain ⟨U, hU⟩ : ∃ U, unions Ms ⟨1, [], [0]⟩ = U := ⟨_, rfl⟩
  have HU : Hid (unions Ms ⟨1, [], [0]⟩ = U) := hU
  rw [hU] at hbE hbR
  have HBE : Hid (U.es.length ≤ 10000000 ∧ U.rs.length ≤ 10000000) := ⟨hbE, hbR⟩
  have HHAS : Hid (∀ M ∈ Ms, M.es.length ≤ 10000000 ∧ M.rs.length ≤ 10000000) := fun M hM => by
    have h1 := unions_has Ms ⟨1, [], [0]⟩ M hM
    rw [hU] at h1
    omega
  have kk : Below w.heap.size w (w.alloc (.cells #[.int .i64 0, .slice none 0 0, .slice none 0 0] 37)) := (Below.refl _ _).alloc (Nat.le_refl _) _
  have HNR : Hid (NFB (w.alloc (.cells #[.int .i64 0, .slice none 0 0, .slice none 0 0] 37)) w.heap.size ⟨0, none, 0, 0, none, 0, 0⟩) := nfb_new w ⟨0, none, 0, 0, none, 0, 0⟩
  have HB1 : Hid (Below w.heap.size w (w.alloc (.cells #[.int .i64 0, .slice none 0 0, .slice none 0 0] 37))) := kk
  obtain ⟨w1, hw1⟩ : ∃ w1, w.alloc (.cells #[.int .i64 0, .slice none 0 0, .slice none 0 0] 37) = w1 := ⟨_, rfl⟩
  rw [hw1] at HNR HB1
  obtain ⟨R, hR⟩ : ∃ R, w.heap.size = R := ⟨_, rfl⟩
  rw [hR] at HNR
  have HW1 : Hid (w.alloc (.cells #[.int .i64 0, .slice none 0 0, .slice none 0 0] 37) = w1) := hw1
  have HRR : Hid (w.heap.size = R) := hR
  have HR0 : Hid (w.heap.size ≤ R) := Nat.le_of_eq hR
  have HC : Hid (Calls Tryz.prog 23 #[.slice a N c, .func (.func 24) #[] #[]] w1 _) := containsM_any Ms xs a N c w1 hN hn (HL.out.later HB1.out) HHAS.out
  clear hw1 hR h hN hU hbE hbR kk
  go_enter Tryz.func7, Tryz.ntmps7
  go_upto_region 1 with fail
  rw [HW1.out, HRR.out]
  clear HW1
  go_wp2_with fail
  refine HC.out.mono ?_
  rintro e w4 ⟨rfl, k4⟩
  have HR4 : Hid (NFB w4 R ⟨0, none, 0, 0, none, 0, 0⟩) := HNR.out.later k4
  have HB4 : Hid (Below w.heap.size w w4) := below_step HB1.out k4
  clear k4 HC HNR HB1
  obtain ⟨v, hv⟩ : ∃ v, Ms.all rightOf = v := ⟨_, rfl⟩
  rw [hv]
  cases v with
  | false =>
    have HF : Hid (UnionPost w Ms (.returned (.tuple #[Nf.val ⟨0, none, 0, 0, none, 0, 0⟩, .int .i64 ((70 : Nat) : Nat)])) (put3 w4 R ⟨0, none, 0, 0, none, 0, 0⟩)) := union_no HB4.out HR0.out hv
    have HG : Hid (NFB (put3 w4 R ⟨0, none, 0, 0, none, 0, 0⟩) R ⟨0, none, 0, 0, none, 0, 0⟩) := HR4.out.put3 _
    obtain ⟨z0, z1, z2⟩ := HR4.out.cells
    simp only at z0 z1 z2
    have q0 := HR4.out.frozen 0
    have q1 := HR4.out.frozen 1
    have q2 := HR4.out.frozen 2
    unfold put3 at HF HG
    simp only at HF HG
    clear hv
    go_wp2
    exact post_punion (y := ⟨0, none, 0, 0, none, 0, 0⟩) rfl rfl rfl HG.out HF.out
  | true =>
  have HALL : Hid (Ms.all rightOf = true) := hv
  clear hv
  have HU3 : Hid (Un w (w4.heap.size + 1) R ((w4.alloc (.cells #[.int .u32 0] 44)).alloc (.cells #[.int .i64 1, .slice none 0 0, .slice (some ⟨w4.heap.size, 0, none⟩) 1 1] 37)) ⟨1, none, 0, 0, some ⟨w4.heap.size, 0, none⟩, 1, 1⟩ ⟨1, [], [0]⟩) := un_begin HB4.out HR4.out HR0.out
  go_upto_region 4 with fail
  obtain ⟨w3, hw3⟩ : ∃ w3, (w4.alloc (.cells #[.int .u32 0] 44)).alloc (.cells #[.int .i64 1, .slice none 0 0, .slice (some ⟨w4.heap.size, 0, none⟩) 1 1] 37) = w3 := ⟨_, rfl⟩
  obtain ⟨O, hO⟩ : ∃ O, w4.heap.size + 1 = O := ⟨_, rfl⟩
  obtain ⟨P, hP⟩ : ∃ P, w4.heap.size = P := ⟨_, rfl⟩
  rw [hw3] at HU3 ⊢
  rw [hO] at HU3 ⊢
  rw [hP] at HU3
  have HU4 : Hid (Un w O R w3 ⟨1, none, 0, 0, some ⟨P, 0, none⟩, 1, 1⟩ ⟨1, [], [0]⟩) := HU3.out
  clear hw3 hO hP HR4 HB4 HU3
  go_wp2_with fail
  go_loopw [17] (fun i u => ∃ (j : Nat) (x : Nf) (o : Ma), i = .int .i64 (j : Nat) ∧ j ≤ N ∧ Hid (unions (Ms.drop j) o = U) ∧ Hid (o.S = o.rs.length) ∧ Hid (Un w O R u x o)) (fun i _ => N - (intOf i).toNat)
  case atStart => exact ⟨0, _, _, rfl, Nat.zero_le _, HU, rfl, HU4⟩
  case round =>
    clear HU4
    obtain ⟨j, x, o, rfl, hjn, HUj, HOS, HUn⟩ := hrel
    by_cases hlt : j < N
    · have hlt' : (j : Int) < (N : Int) := by omega
      obtain ⟨M, hM⟩ : ∃ M, Ms[j]? = some M := ⟨_, List.getElem?_eq_getElem (by rw [HN.out]; exact hlt)⟩
      obtain ⟨y, hy⟩ : ∃ y, xs[j]? = some y := ⟨_, List.getElem?_eq_getElem (by rw [HXN.out]; exact hlt)⟩
      have HLr := HL.out.later HUn.out.low
      have hMa := HL.out.ma j M y hM hy
      obtain ⟨b, off, rfl, p0, p1, p2⟩ := HLr.at_.nth hy
      have hRT : rightOf M = true := List.all_eq_true.1 HALL.out M (List.mem_of_getElem? hM)
      obtain ⟨hS1, hSr, hedg⟩ := right_parts hRT
      have HED : Hid (∀ e ∈ M.es, 0 ≤ e.f ∧ e.f < M.S ∧ 0 ≤ e.t ∧ e.t < M.S) := hedg
      have HUn2 : Hid (unions (Ms.drop (j + 1)) (addM o M) = U) := (unions_step hM o).symm.trans HUj.out
      have hle := unions_le (Ms.drop (j + 1)) (addM o M)
      rw [HUn2.out] at hle
      have hb1 : o.es.length + 1 + M.es.length ≤ 10000000 := by have h1 := HBE.out.1; simp only [addM, List.length_append, List.length_cons, List.length_nil, List.length_map] at hle; omega
      have hb2 : o.rs.length + M.rs.length ≤ 10000000 := by have h1 := HBE.out.2; simp only [addM, List.length_append] at hle; omega
      have HME : Hid (EAt (fun _ => True) w y.ea M.es ∧ UAt (fun _ => True) w y.ra M.rs) := ⟨hMa.e, hMa.u⟩
      have e1 : y.S = M.S := hMa.s
      have e2 : y.en = M.es.length := hMa.n
      have e3 : y.rn = M.rs.length := hMa.r
      have e4 : x.S = o.S := HUn.out.s
      have e5 : x.en = o.es.length := HUn.out.en
      have e6 : x.rn = o.rs.length := HUn.out.rn
      have hOS : o.S = o.rs.length := HOS.out
      clear hM hy HLr hMa hRT hedg hle HUj
      obtain ⟨yS, ya, yn, yc, yra, yrn, yrc⟩ := y
      obtain ⟨xS, xa, xn, xc, xra, xrn, xrc⟩ := x
      simp only at p0 p1 p2 e1 e2 e3 e4 e5 e6 HME
      subst e1 e4
      have HLN : Hid (M.es.length = yn ∧ M.rs.length = yrn ∧ o.es.length = xn ∧ o.rs.length = xrn) := ⟨e2.symm, e3.symm, e5.symm, e6.symm⟩
      rw [← e5, ← e2] at hb1
      rw [← e6, ← e3] at hb2
      rw [← e6] at hOS
      rw [← e3] at hSr
      clear e2 e3 e5 e6
      obtain ⟨T, hT⟩ : ∃ T, M.S = T := ⟨_, rfl⟩
      obtain ⟨S, hS⟩ : ∃ S, o.S = S := ⟨_, rfl⟩
      have HTT : Hid (M.S = T) := hT
      have HSS : Hid (o.S = S) := hS
      rw [hT] at p0 hS1 hSr HED
      rw [hS] at HUn hOS
      clear hT hS
      have hS7 : 0 ≤ S ∧ S ≤ 10000000 := by omega
      obtain ⟨hS70, hS71⟩ := hS7
      have hT7 : T ≤ 10000000 := by omega
      have HQ : Hid (S = xrn ∧ (yrn : Int) = T) := ⟨hOS, hSr⟩
      clear hOS hSr
      have kk : Below wr.heap.size wr (wr.alloc (.cells #[.int .i64 T, .slice ya yn yc, .slice yra yrn yrc] 37)) := (Below.refl _ _).alloc (Nat.le_refl _) _
      have HU6 : Hid (Un w O R (wr.alloc (.cells #[.int .i64 T, .slice ya yn yc, .slice yra yrn yrc] 37)) ⟨S, xa, xn, xc, xra, xrn, xrc⟩ o) := HUn.out.later kk
      have HA6 : Hid (NFB (wr.alloc (.cells #[.int .i64 T, .slice ya yn yc, .slice yra yrn yrc] 37)) wr.heap.size ⟨T, ya, yn, yc, yra, yrn, yrc⟩) := nfb_new wr ⟨T, ya, yn, yc, yra, yrn, yrc⟩
      have HAO : Hid (wr.heap.size ≠ O) := by have := HUn.out.nf.lt; show _ ≠ _; omega
      clear kk
      go_upto_region 7 with fail
      obtain ⟨w6, hw6⟩ : ∃ w6, wr.alloc (.cells #[.int .i64 T, .slice ya yn yc, .slice yra yrn yrc] 37) = w6 := ⟨_, rfl⟩
      obtain ⟨A, hA⟩ : ∃ A, wr.heap.size = A := ⟨_, rfl⟩
      rw [hw6] at HU6 HA6 ⊢
      rw [hA] at HA6 HAO ⊢
      clear hw6 hA HUn p0 p1 p2
      obtain ⟨x0, x1, x2⟩ := HU6.out.nf.cells
      simp only at x0 x1 x2
      have kk : Below w6.heap.size w6 (w6.alloc (.cells #[.int .i64 1, .int .i64 0, .int .i64 S, .int .u64 0, .int .u64 0, .int .u64 0, .int .u64 0] 66)) := (Below.refl _ _).alloc (Nat.le_refl _) _
      have HU7 : Hid (Un w O R (w6.alloc (.cells #[.int .i64 1, .int .i64 0, .int .i64 S, .int .u64 0, .int .u64 0, .int .u64 0, .int .u64 0] 66)) ⟨S, xa, xn, xc, xra, xrn, xrc⟩ o) := HU6.out.later kk
      have HA7 : Hid (NFB (w6.alloc (.cells #[.int .i64 1, .int .i64 0, .int .i64 S, .int .u64 0, .int .u64 0, .int .u64 0, .int .u64 0] 66)) A ⟨T, ya, yn, yc, yra, yrn, yrc⟩) := HA6.out.later kk
      have HC7 : Hid (∀ j v, (Eg.cells ⟨1, 0, S, Oct.none⟩)[j]? = some v → (w6.alloc (.cells #[.int .i64 1, .int .i64 0, .int .i64 S, .int .u64 0, .int .u64 0, .int .u64 0, .int .u64 0] 66)).cell? ((⟨w6.heap.size, 0, none⟩ : Addr).add j) = some v) := fun j v hj => by
        unfold Eg.cells at hj
        simp only [word0] at hj
        rw [Go.WideShapes.add_plain, Nat.zero_add]
        simp only [World.cell?, heap_alloc_new]
        rw [← Array.getElem?_toList]
        exact hj
      have HZ7 : Hid (w.heap.size ≤ (w6.alloc (.cells #[.int .i64 1, .int .i64 0, .int .i64 S, .int .u64 0, .int .u64 0, .int .u64 0, .int .u64 0] 66)).heap.size) := HU7.out.low.size
      clear kk
      go_wp2_with (at_builtin; go_must (refine wpList_append_edge rfl _ _ rfl w.heap.size xn _ o.es rfl HLN.out.2.2.1 HU7.out.e ⟨w6.heap.size, 0, none⟩ 1 ⟨1, 0, S, Oct.none⟩ rfl HC7.out (by omega) HZ7.out ?_; intro g cap w8 hr8 hg8; obtain ⟨q1, ⟨vv, q2⟩, q3, q4⟩ := HU7.out.edge rfl hr8 hg8; have HU8 : Hid (Un w O R (w8.setCell ⟨O, 1, none⟩ (.slice (some ⟨g, 0, none⟩) (xn + 1) cap)) ⟨S, some ⟨g, 0, none⟩, xn + 1, cap, xra, xrn, xrc⟩ ⟨o.S, o.es ++ [⟨1, 0, S, Oct.none⟩], o.rs⟩) := q1; have HA8 : Hid (NFB (w8.setCell ⟨O, 1, none⟩ (.slice (some ⟨g, 0, none⟩) (xn + 1) cap)) A ⟨T, ya, yn, yc, yra, yrn, yrc⟩) := q4 A _ HA7.out HAO.out; clear q1 q4 hr8 hg8; obtain ⟨s0, s1, s2⟩ := HA8.out.cells; simp only at s0 s1 s2))
      obtain ⟨w9, hw9⟩ : ∃ w9, w8.setCell ⟨O, 1, none⟩ (.slice (some ⟨g, 0, none⟩) (xn + 1) cap) = w9 := ⟨_, rfl⟩
      rw [hw9] at HU8 HA8 ⊢
      clear hw9 s0 s1 s2 HU7 HA7 HC7 HZ7 HU6 HA6 x0 x1 x2 q2 q3
      go_loopw [33] (fun i u => ∃ (k : Nat) (x : Nf), i = .int .i64 (k : Nat) ∧ k ≤ yn ∧ Hid (Un w O R u x ⟨o.S, o.es ++ [⟨1, 0, S, Oct.none⟩] ++ (M.es.take k).map (shiftE S), o.rs⟩) ∧ Hid (NFB u A ⟨T, ya, yn, yc, yra, yrn, yrc⟩)) (fun i _ => yn - (intOf i).toNat)
      case atStart => exact ⟨0, _, rfl, Nat.zero_le _, by simpa using HU8, HA8⟩
      case round =>
        clear HU8 HA8
        obtain ⟨k, x, rfl, hkn, HUk, HAk⟩ := hrel
        obtain ⟨y0, y1, y2⟩ := HAk.out.cells
        simp only at y0 y1 y2
        have ex1 : x.S = o.S := HUk.out.s
        have ex2 : x.en = xn + 1 + k := by
          have h1 := HUk.out.en
          rw [h1]
          simp only [List.length_append, List.length_cons, List.length_nil, List.length_map, List.length_take, HLN.out.1, HLN.out.2.2.1]
          omega
        have ex3 : x.rn = xrn := HUk.out.rn.trans HLN.out.2.2.2
        rw [HSS.out] at ex1
        obtain ⟨xS, xa, xk, xc, xra, xrk, xrc⟩ := x
        simp only at ex1 ex2 ex3
        subst ex1 ex2 ex3
        by_cases hlt2 : k < yn
        · have hlt2' : (k : Int) < (yn : Int) := by omega
          obtain ⟨e, hee⟩ : ∃ e, M.es[k]? = some e := ⟨_, List.getElem?_eq_getElem (by rw [HLN.out.1]; exact hlt2)⟩
          obtain ⟨hf0, hf1, ht0, ht1⟩ := HED.out e (List.mem_of_getElem? hee)
          obtain ⟨b', off', rfl, p0, p1, p2, p3, p4, p5, p6⟩ := (HME.out.1.keep (w' := wr) (fun _ h _ => h) (fun k _ hk => HUk.out.low.block k hk)).nth hee
          have HEE : Hid (M.es[k]? = some e) := hee
          clear hee
          have kk : Below wr.heap.size wr (((wr.alloc (.cells #[.int .i64 e.k, .int .i64 e.f, .int .i64 e.t, .int .u64 (Oct.word e.s 0 : Nat), .int .u64 (Oct.word e.s 1 : Nat), .int .u64 (Oct.word e.s 2 : Nat), .int .u64 (Oct.word e.s 3 : Nat)] 66)).setCell ⟨wr.heap.size, 1, none⟩ (.int .i64 (e.f + xS))).setCell ⟨wr.heap.size, 2, none⟩ (.int .i64 (e.t + xS))) := (((Below.refl _ _).alloc (Nat.le_refl _) _).setCell (p := ⟨wr.heap.size, 1, none⟩) (Nat.le_refl _) _).setCell (p := ⟨wr.heap.size, 2, none⟩) (Nat.le_refl _) _
          have HG0 : Hid ((wr.alloc (.cells #[.int .i64 e.k, .int .i64 e.f, .int .i64 e.t, .int .u64 (Oct.word e.s 0 : Nat), .int .u64 (Oct.word e.s 1 : Nat), .int .u64 (Oct.word e.s 2 : Nat), .int .u64 (Oct.word e.s 3 : Nat)] 66)).heap[wr.heap.size]? = some (.cells #[.int .i64 e.k, .int .i64 e.f, .int .i64 e.t, .int .u64 (Oct.word e.s 0 : Nat), .int .u64 (Oct.word e.s 1 : Nat), .int .u64 (Oct.word e.s 2 : Nat), .int .u64 (Oct.word e.s 3 : Nat)] 66 (0, 0))) := heap_alloc_new wr _
          have HG3 : Hid ((((wr.alloc (.cells #[.int .i64 e.k, .int .i64 e.f, .int .i64 e.t, .int .u64 (Oct.word e.s 0 : Nat), .int .u64 (Oct.word e.s 1 : Nat), .int .u64 (Oct.word e.s 2 : Nat), .int .u64 (Oct.word e.s 3 : Nat)] 66)).setCell ⟨wr.heap.size, 1, none⟩ (.int .i64 (e.f + xS))).setCell ⟨wr.heap.size, 2, none⟩ (.int .i64 (e.t + xS))).heap[wr.heap.size]? = some (.cells #[.int .i64 e.k, .int .i64 (e.f + xS), .int .i64 (e.t + xS), .int .u64 (Oct.word e.s 0 : Nat), .int .u64 (Oct.word e.s 1 : Nat), .int .u64 (Oct.word e.s 2 : Nat), .int .u64 (Oct.word e.s 3 : Nat)] 66 (0, 0))) := heap_set (heap_set HG0.out 1 _) 2 _
          have HU3 : Hid (Un w O R (((wr.alloc (.cells #[.int .i64 e.k, .int .i64 e.f, .int .i64 e.t, .int .u64 (Oct.word e.s 0 : Nat), .int .u64 (Oct.word e.s 1 : Nat), .int .u64 (Oct.word e.s 2 : Nat), .int .u64 (Oct.word e.s 3 : Nat)] 66)).setCell ⟨wr.heap.size, 1, none⟩ (.int .i64 (e.f + xS))).setCell ⟨wr.heap.size, 2, none⟩ (.int .i64 (e.t + xS))) ⟨xS, xa, xn + 1 + k, xc, xra, xrk, xrc⟩ ⟨o.S, o.es ++ [⟨1, 0, xS, Oct.none⟩] ++ (M.es.take k).map (shiftE xS), o.rs⟩) := HUk.out.later kk
          have HA3 : Hid (NFB (((wr.alloc (.cells #[.int .i64 e.k, .int .i64 e.f, .int .i64 e.t, .int .u64 (Oct.word e.s 0 : Nat), .int .u64 (Oct.word e.s 1 : Nat), .int .u64 (Oct.word e.s 2 : Nat), .int .u64 (Oct.word e.s 3 : Nat)] 66)).setCell ⟨wr.heap.size, 1, none⟩ (.int .i64 (e.f + xS))).setCell ⟨wr.heap.size, 2, none⟩ (.int .i64 (e.t + xS))) A ⟨T, some ⟨b', off', none⟩, yn, yc, yra, yrn, yrc⟩) := HAk.out.later kk
          clear kk
          go_upto_region 12 with fail
          have HGW : Hid (wr.alloc (.cells #[.int .i64 e.k, .int .i64 e.f, .int .i64 e.t, .int .u64 (Oct.word e.s 0 : Nat), .int .u64 (Oct.word e.s 1 : Nat), .int .u64 (Oct.word e.s 2 : Nat), .int .u64 (Oct.word e.s 3 : Nat)] 66) = wr.alloc (.cells #[.int .i64 e.k, .int .i64 e.f, .int .i64 e.t, .int .u64 (Oct.word e.s 0 : Nat), .int .u64 (Oct.word e.s 1 : Nat), .int .u64 (Oct.word e.s 2 : Nat), .int .u64 (Oct.word e.s 3 : Nat)] 66)) := rfl
          obtain ⟨v1, hv1⟩ : ∃ v1, wr.alloc (.cells #[.int .i64 e.k, .int .i64 e.f, .int .i64 e.t, .int .u64 (Oct.word e.s 0 : Nat), .int .u64 (Oct.word e.s 1 : Nat), .int .u64 (Oct.word e.s 2 : Nat), .int .u64 (Oct.word e.s 3 : Nat)] 66) = v1 := ⟨_, rfl⟩
          obtain ⟨G, hG⟩ : ∃ G, wr.heap.size = G := ⟨_, rfl⟩
          rw [hv1] at HG0 HG3 HU3 HA3 ⊢
          rw [hG] at HG0 HG3 HU3 HA3 ⊢
          clear hv1 hG HGW HUk HAk p0 p1 p2 p3 p4 p5 p6 y0 y1 y2
          have g1 : v1.cell? ⟨G, 1, none⟩ = some (.int .i64 e.f) := by simp [World.cell?, HG0.out]
          have g2 : v1.cell? ⟨G, 2, none⟩ = some (.int .i64 e.t) := by simp [World.cell?, HG0.out]
          have g3 : ∀ j, v1.frozen? ⟨G, j, none⟩ = false := fun j => by simp [World.frozen?, HG0.out]
          go_upto_region 14 with fail
          obtain ⟨v3, hv3⟩ : ∃ v3, (v1.setCell ⟨G, 1, none⟩ (.int .i64 (e.f + xS))).setCell ⟨G, 2, none⟩ (.int .i64 (e.t + xS)) = v3 := ⟨_, rfl⟩
          rw [hv3] at HG3 HU3 HA3 ⊢
          clear hv3 HG0 g1 g2 g3
          have g0 : v3.cell? ⟨G, 0, none⟩ = some (.int .i64 e.k) := by simp [World.cell?, HG3.out]
          have g1 : v3.cell? ⟨G, 1, none⟩ = some (.int .i64 (e.f + xS)) := by simp [World.cell?, HG3.out]
          have g2 : v3.cell? ⟨G, 2, none⟩ = some (.int .i64 (e.t + xS)) := by simp [World.cell?, HG3.out]
          have g3 : v3.cell? ⟨G, 3, none⟩ = some (.int .u64 (Oct.word e.s 0 : Nat)) := by simp [World.cell?, HG3.out]
          have g4 : v3.cell? ⟨G, 4, none⟩ = some (.int .u64 (Oct.word e.s 1 : Nat)) := by simp [World.cell?, HG3.out]
          have g5 : v3.cell? ⟨G, 5, none⟩ = some (.int .u64 (Oct.word e.s 2 : Nat)) := by simp [World.cell?, HG3.out]
          have g6 : v3.cell? ⟨G, 6, none⟩ = some (.int .u64 (Oct.word e.s 3 : Nat)) := by simp [World.cell?, HG3.out]
          obtain ⟨x0, x1, x2⟩ := HU3.out.nf.cells
          simp only at x0 x1 x2
          have kk : Below v3.heap.size v3 (v3.alloc (.cells #[.int .i64 e.k, .int .i64 (e.f + xS), .int .i64 (e.t + xS), .int .u64 (Oct.word e.s 0 : Nat), .int .u64 (Oct.word e.s 1 : Nat), .int .u64 (Oct.word e.s 2 : Nat), .int .u64 (Oct.word e.s 3 : Nat)] 66)) := (Below.refl _ _).alloc (Nat.le_refl _) _
          have HU4 : Hid (Un w O R (v3.alloc (.cells #[.int .i64 e.k, .int .i64 (e.f + xS), .int .i64 (e.t + xS), .int .u64 (Oct.word e.s 0 : Nat), .int .u64 (Oct.word e.s 1 : Nat), .int .u64 (Oct.word e.s 2 : Nat), .int .u64 (Oct.word e.s 3 : Nat)] 66)) ⟨xS, xa, xn + 1 + k, xc, xra, xrk, xrc⟩ ⟨o.S, o.es ++ [⟨1, 0, xS, Oct.none⟩] ++ (M.es.take k).map (shiftE xS), o.rs⟩) := HU3.out.later kk
          have HA4 : Hid (NFB (v3.alloc (.cells #[.int .i64 e.k, .int .i64 (e.f + xS), .int .i64 (e.t + xS), .int .u64 (Oct.word e.s 0 : Nat), .int .u64 (Oct.word e.s 1 : Nat), .int .u64 (Oct.word e.s 2 : Nat), .int .u64 (Oct.word e.s 3 : Nat)] 66)) A ⟨T, some ⟨b', off', none⟩, yn, yc, yra, yrn, yrc⟩) := HA3.out.later kk
          have HC4 : Hid (∀ j v, (Eg.cells (shiftE xS e))[j]? = some v → (v3.alloc (.cells #[.int .i64 e.k, .int .i64 (e.f + xS), .int .i64 (e.t + xS), .int .u64 (Oct.word e.s 0 : Nat), .int .u64 (Oct.word e.s 1 : Nat), .int .u64 (Oct.word e.s 2 : Nat), .int .u64 (Oct.word e.s 3 : Nat)] 66)).cell? ((⟨v3.heap.size, 0, none⟩ : Addr).add j) = some v) := fun j v hj => by
            rw [Go.WideShapes.add_plain, Nat.zero_add]
            simp only [World.cell?, heap_alloc_new]
            rw [← Array.getElem?_toList]
            exact hj
          have HZ4 : Hid (w.heap.size ≤ (v3.alloc (.cells #[.int .i64 e.k, .int .i64 (e.f + xS), .int .i64 (e.t + xS), .int .u64 (Oct.word e.s 0 : Nat), .int .u64 (Oct.word e.s 1 : Nat), .int .u64 (Oct.word e.s 2 : Nat), .int .u64 (Oct.word e.s 3 : Nat)] 66)).heap.size) := HU4.out.low.size
          have HL4 : Hid ((o.es ++ [(⟨1, 0, xS, Oct.none⟩ : Eg)] ++ (M.es.take k).map (shiftE xS)).length = xn + 1 + k) := HU3.out.en.symm
          have HTK : Hid (o.es ++ [(⟨1, 0, xS, Oct.none⟩ : Eg)] ++ (M.es.take k).map (shiftE xS) ++ [shiftE xS e] = o.es ++ [(⟨1, 0, xS, Oct.none⟩ : Eg)] ++ (M.es.take (k + 1)).map (shiftE xS)) := by show _ = _; rw [List.take_add_one, HEE.out]; simp
          clear kk
          go_wp2_with (at_builtin; go_must (refine wpList_append_edge rfl _ _ rfl w.heap.size (xn + 1 + k) _ _ rfl HL4.out HU4.out.e ⟨v3.heap.size, 0, none⟩ 1 (shiftE xS e) rfl HC4.out (by omega) HZ4.out ?_; intro g cap w8 hr8 hg8; obtain ⟨q1, ⟨vv, q2⟩, q3, q4⟩ := HU4.out.edge rfl hr8 hg8; have HU8 : Hid (Un w O R (w8.setCell ⟨O, 1, none⟩ (.slice (some ⟨g, 0, none⟩) (xn + 1 + k + 1) cap)) ⟨xS, some ⟨g, 0, none⟩, xn + 1 + k + 1, cap, xra, xrk, xrc⟩ ⟨o.S, o.es ++ [⟨1, 0, xS, Oct.none⟩] ++ (M.es.take k).map (shiftE xS) ++ [shiftE xS e], o.rs⟩) := q1; have HA8 : Hid (NFB (w8.setCell ⟨O, 1, none⟩ (.slice (some ⟨g, 0, none⟩) (xn + 1 + k + 1) cap)) A ⟨T, some ⟨b', off', none⟩, yn, yc, yra, yrn, yrc⟩) := q4 A _ HA4.out HAO.out; clear q1 q4 hr8 hg8))
          rw [HTK.out] at HU8
          go_roundw
          case rel => exact ⟨k + 1, _, by go_num, by omega, HU8, HA8⟩
          case measure => simp [intOf]; omega
        · have hlt2' : ¬ (k : Int) < (yn : Int) := by omega
          have HTK : Hid ((M.es.take k).map (shiftE xS) = M.es.map (shiftE xS)) := by show _ = _; rw [List.take_of_length_le (by rw [HLN.out.1]; omega)]
          rw [HTK.out] at HUk
          have hrn0 : 0 < yrn := by have := HQ.out; omega
          obtain ⟨t0, ht0⟩ : ∃ t0, M.rs[0]? = some t0 := ⟨_, List.getElem?_eq_getElem (by rw [HLN.out.2.1]; exact hrn0)⟩
          have HUK := HME.out.2.keep (w' := wr) (Y := fun _ => True) (fun _ h _ => h) (fun k _ hk => HUk.out.low.block k hk)
          obtain ⟨b', off', hra, hcell⟩ : ∃ b' off', yra = some ⟨b', off', none⟩ ∧ ∀ j x, M.rs[j]? = some x → wr.cell? ⟨b', off' + j, none⟩ = some (.int .u32 (x : Nat)) := by
            rcases HUK with h1 | ⟨b', off', h1, _, h2⟩
            · rw [h1] at ht0; cases ht0
            · exact ⟨b', off', h1, h2⟩
          subst hra
          have HCL : Hid (∀ j x, M.rs[j]? = some x → wr.cell? ⟨b', off' + j, none⟩ = some (.int .u32 (x : Nat))) := hcell
          clear hcell HUK ht0
          obtain ⟨x0, x1, x2⟩ := HUk.out.nf.cells
          simp only at x0 x1 x2
          have HL5 : Hid (o.rs.length = xrk) := HLN.out.2.2.2
          have HM5 : Hid (M.rs.length = yrn) := HLN.out.2.1
          have HZ5 : Hid (w.heap.size ≤ wr.heap.size) := HUk.out.low.size
          go_wp2_with (at_builtin; go_must (refine wpList_append_words rfl _ _ rfl w.heap.size xrk yrn _ o.rs M.rs rfl HL5.out HUk.out.r b' off' yrc rfl HM5.out hrn0 HCL.out (by omega) HZ5.out ?_; intro g cap w8 hr8 hg8; obtain ⟨q1, ⟨vv, q2⟩, q3, q4⟩ := HUk.out.words rfl hr8 hg8; have HU8 : Hid (Un w O R (w8.setCell ⟨O, 2, none⟩ (.slice (some ⟨g, 0, none⟩) (xrk + yrn) cap)) ⟨xS, xa, xn + 1 + k, xc, some ⟨g, 0, none⟩, xrk + yrn, cap⟩ ⟨o.S, o.es ++ [⟨1, 0, xS, Oct.none⟩] ++ M.es.map (shiftE xS), o.rs ++ M.rs⟩) := q1; have HA8 : Hid (NFB (w8.setCell ⟨O, 2, none⟩ (.slice (some ⟨g, 0, none⟩) (xrk + yrn) cap)) A ⟨T, ya, yn, yc, some ⟨b', off', none⟩, yrn, yrc⟩) := q4 A _ HAk.out HAO.out; clear q1 q4 hr8 hg8; obtain ⟨r0, r1, r2⟩ := HU8.out.nf.cells; simp only at r0 r1 r2; obtain ⟨s0, s1, s2⟩ := HA8.out.cells; simp only at s0 s1 s2; have rf := HU8.out.nf.frozen 0))
          have HU9 : Hid (Un w O R ((w8.setCell ⟨O, 2, none⟩ (.slice (some ⟨g, 0, none⟩) (xrk + yrn) cap)).setCell ⟨O, 0, none⟩ (.int .i64 (xS + T))) ⟨xS + T, xa, xn + 1 + k, xc, some ⟨g, 0, none⟩, xrk + yrn, cap⟩ ⟨xS + T, o.es ++ [⟨1, 0, xS, Oct.none⟩] ++ M.es.map (shiftE xS), o.rs ++ M.rs⟩) := HU8.out.states (xS + T)
          have HAD : Hid (addM o M = ⟨xS + T, o.es ++ [⟨1, 0, xS, Oct.none⟩] ++ M.es.map (shiftE xS), o.rs ++ M.rs⟩) := by show _ = _; unfold addM; rw [HSS.out, HTT.out]
          rw [HAD.out] at HUn2
          have HOS2 : Hid (xS + T = ((o.rs ++ M.rs).length : Nat)) := by show _ = _; rw [List.length_append, HL5.out, HM5.out]; have := HQ.out; omega
          go_roundw
          case rel => exact ⟨j + 1, _, _, by go_num, by omega, HUn2, HOS2, HU9⟩
          case measure => simp [intOf]; omega
    · have hlt' : ¬ (j : Int) < (N : Int) := by omega
      have HE : Hid (unions Ms ⟨1, [], [0]⟩ = o) := by
        show _ = _
        rw [HU.out, ← HUj.out, List.drop_of_length_le (by rw [HN.out]; omega), unions]
      obtain ⟨hF, hG⟩ := union_yes HUn.out HALL.out HE.out
      have HF : Hid (UnionPost w Ms (.returned (.tuple #[Nf.val x, .int .i64 ((0 : Nat) : Nat)])) (put3 wr R x)) := hF
      have HG : Hid (NFB (put3 wr R x) R x) := hG
      clear hF hG
      obtain ⟨x0, x1, x2⟩ := HUn.out.nf.cells
      obtain ⟨z0, z1, z2⟩ := HUn.out.res.cells
      simp only at z0 z1 z2
      have q0 := HUn.out.res.frozen 0
      have q1 := HUn.out.res.frozen 1
      have q2 := HUn.out.res.frozen 2
      unfold put3 at HF HG
      go_wp2
      exact post_punion (y := x) rfl rfl rfl HG.out HF.out
theorem union_ok : UnionOK := fun _ _ _ _ w h _ _ h3 h4 h5 => punion_any w h h3 h4 h5
end Go.Proofs.YtmjnobdlgbojoaaGreatDoor
