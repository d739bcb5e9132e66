/- subset.keepsFound, Right$1. -/
import Derived.Test.YtdngileimmgdnaaDoorG07
namespace Go.Proofs.YtdngileimmgdnaaDoor
open Go.RowKit
attribute [local go_sem ↓] Go.wp_at_zero Go.wp_at_succ

/-- the numbers of a slice -/
def rdInts (w : World) : Value → List Int
  | .slice (some ⟨b, off, none⟩) n _ => (List.range n).map fun k => match w.cell? ⟨b, off + k, none⟩ with
    | some (.int _ z) => z
    | _ => 0
  | _ => []
theorem rdInts_eq {w : World} {U : Value} {r : List Int} (h : LAt w U (ints r)) : rdInts w U = r := by
  obtain ⟨a, c, rfl, _, _, h3⟩ := h
  rw [ints_len]
  rcases h3 with h3 | ⟨b, off, rfl, hc⟩
  · have h4 : r = [] := by
      have := congrArg List.length h3
      rw [ints_len] at this
      exact List.eq_nil_of_length_eq_zero this
    subst h4
    cases a with
    | none => rfl
    | some x => obtain ⟨b, off, sp⟩ := x; cases sp <;> rfl
  · unfold rdInts
    apply List.ext_getElem (by simp)
    intro k h1 h2
    have := hc k _ (ints_at (List.getElem?_eq_getElem h2))
    simp [this]
def rowOk (C S : Nat) (r : List Int) : Bool := decide (r.length = C) && r.all (blw S)
set_option maxHeartbeats 2000000 in
theorem right1_any (C S A B : Nat) (r : List Int) (U : Value) (w : World) (hA : w.cell? ⟨A, 0, none⟩ = some (.int .i64 (C : Nat))) (hB : w.cell? ⟨B, 0, none⟩ = some (.int .i64 (S : Nat))) (hU : LAt w U (ints r)) :
    Calls Tryd.prog 27 #[U, .pointer (some ⟨A, 0, none⟩), .pointer (some ⟨B, 0, none⟩)] w fun e w' => e = .returned (.bool (!rowOk C S r)) ∧ Below w.heap.size w w' := by
  have HC : Hid (Calls Tryd.prog 25 #[.int .i64 (S : Nat), U] w fun e w' => e = .returned (.bool (r.all (blw S))) ∧ Below w.heap.size w w') := allBelow_any S r U w hU
  obtain ⟨a, c, rfl, h1, h2, _⟩ := hU.intAt
  obtain ⟨n, hn⟩ : ∃ n, r.length = n := ⟨_, rfl⟩
  have HX : Hid (rowOk C S r = (decide (n = C) && r.all (blw S))) := by rw [← hn]; rfl
  rw [hn] at HC h1
  rw [hn]
  obtain ⟨v, hv⟩ : ∃ v, r.all (blw S) = v := ⟨_, rfl⟩
  rw [hv] at HC HX
  obtain ⟨ok, hok⟩ : ∃ ok, rowOk C S r = ok := ⟨_, rfl⟩
  rw [hok] at HX ⊢
  clear hU hn hv hok
  by_cases hnC : n = C
  · have g1 : ((n : Int) != (C : Int)) = false := by simp [hnC]
    have HY : Hid (ok = v) := by show _ = _; rw [HX.out]; simp [hnC]
    clear HX hnC
    go_enter Tryd.func27, Tryd.ntmps27
    go_wp2_with fail
    refine HC.out.mono ?_
    rintro e w2 ⟨rfl, k2⟩
    have HB2 : Hid (Below w.heap.size w w2) := k2
    clear k2 HC
    go_wp2
    go_ret
    exact ⟨by rw [HY.out]; rfl, HB2.out⟩
  · have g1 : ((n : Int) != (C : Int)) = true := by simp; omega
    have HY : Hid (ok = false) := by show _ = _; rw [HX.out]; simp [hnC]
    clear HX hnC HC
    go_enter Tryd.func27, Tryd.ntmps27
    go_wp2
    go_ret
    exact ⟨by rw [HY.out]; rfl, Below.refl _ _⟩
set_option maxHeartbeats 4000000 in
theorem keeps_any (d : Dt) (f : Nat → Int) (V1 V2 V3 U : Value) (Us : List Value) (s : Nat) (r : List Int) (w : World) (hd : DfAt w d V1 V2 V3 Us) (hf : s < d.fo.length) (he : s < d.en.length) (hU : LAt w U (ints r)) (hr : ∀ t ∈ r, 0 ≤ t ∧ t < (d.fo.length : Int)) :
    Calls Tryd.prog 28 #[.agg (dv f V1 V2 V3), .int .i64 (s : Nat), U] w fun e w' => e = .returned (.bool (keepsT d s r)) ∧ Below w.heap.size w w' := by
  obtain ⟨w1, hw1⟩ : ∃ w1, w.alloc (.cells (dv f V1 V2 V3) 26) = w1 := ⟨_, rfl⟩
  obtain ⟨w2, hw2⟩ : ∃ w2, w1.alloc (.cells #[.int .u32 (d.f s : Nat)] 27) = w2 := ⟨_, rfl⟩
  obtain ⟨D, hD⟩ : ∃ D, w.heap.size = D := ⟨_, rfl⟩
  have z1 : w1.heap.size = D + 1 := by rw [← hw1, ← hD]; simp
  have k1 : Below w.heap.size w w1 := by rw [← hw1]; exact (Below.refl _ _).alloc (Nat.le_refl _) _
  have k2 : Below w1.heap.size w1 w2 := by rw [← hw2]; exact (Below.refl _ _).alloc (Nat.le_refl _) _
  have d1 : DB w1 D f V1 V2 V3 := by rw [← hw1, ← hD]; exact db_new w f V1 V2 V3
  have d2 : DB w2 D f V1 V2 V3 := d1.later k2
  have b2 : BX w2 (D + 1) (.int .u32 (d.f s : Nat)) 27 := by have := bx_new w1 (.int .u32 (d.f s : Nat)) 27; rw [hw2, z1] at this; exact this
  have t1 := hd.later k1
  have t2 := t1.later k2
  obtain ⟨a1, c1, a2, c2, a3, c3, e1, e2, e3, l1, m1, l2, m2, l3, m3⟩ := hd.forms
  obtain ⟨gb, go_, rfl, hc1, hlt⟩ := t1.foAt hf e2
  obtain ⟨eb, eo, rfl, hc2, hlt2⟩ := t2.enAt he e3
  have HCX : Hid (∀ u, Below w2.heap.size w2 u → Calls Tryd.prog 41 #[U, .func (.func 44) #[] #[.pointer (some ⟨D + 1, 0, none⟩), .pointer (some ⟨D, 0, none⟩)]] u fun e w' => e = .returned (.bool (r.any fun t => !inn (d.f s) (d.f t.toNat))) ∧ Below u.heap.size u w') := fun u hu =>
    contains_kf (fun t => !inn (d.f s) (d.f t.toNat)) _ _ r U u (((hU.later k1).later k2).later hu) (fun z hz v hv => keeps1_any (d.f s) d (D + 1) D f _ _ _ Us z v hlt ((b2.later hu).later hv).cell ((d2.later hu).later hv) ((t2.later hu).later hv) (hr z hz).1 (hr z hz).2)
  have HX : Hid (keepsT d s r = (inn (d.f s) (d.e s) && !(r.any fun t => !inn (d.f s) (d.f t.toNat)))) := by
    show _ = _
    unfold keepsT
    rw [all_any (fun t => inn (d.f s) (d.f t.toNat)) r, Bool.not_not]
  have HY : Hid ((bits .andNot .u32 ((d.f s : Nat) : Int) ((d.e s : Nat) : Int) != 0) = !inn (d.f s) (d.e s)) := inn_neq hlt hlt2
  obtain ⟨_, q2, _⟩ := d1.hi
  obtain ⟨_, _, q3⟩ := d2.hi
  have q4 := b2.cell
  have HK1 : Hid (Below w.heap.size w w1) := k1
  have HK2 : Hid (Below w.heap.size w w2) := below_step k1 k2
  have HK0 : Hid (Below w1.heap.size w1 w2) := k2
  obtain ⟨n2, hn2⟩ : ∃ n2, d.fo.length = n2 := ⟨_, rfl⟩
  obtain ⟨n3, hn3⟩ : ∃ n3, d.en.length = n3 := ⟨_, rfl⟩
  obtain ⟨F, hF⟩ : ∃ F, d.f s = F := ⟨_, rfl⟩
  obtain ⟨E, hE⟩ : ∃ E, d.e s = E := ⟨_, rfl⟩
  rw [e2, hn2] at q2
  rw [e3, hn3] at q3
  rw [hn2] at hf l2
  rw [hn3] at he l3
  rw [hF] at hc1 hlt HY hw2 q4
  rw [hE] at hc2 hlt2 HY
  have HW1 : Hid (w.alloc (.cells (dv f V1 V2 V3) 26) = w1) := hw1
  have HW2 : Hid (w1.alloc (.cells #[.int .u32 (F : Nat)] 27) = w2) := hw2
  have HDD : Hid (w.heap.size = D) := hD
  have HZ1 : Hid (w1.heap.size = D + 1) := z1
  obtain ⟨y, hy⟩ : ∃ y, bits .andNot .u32 (F : Int) ((E : Nat) : Int) = y := ⟨_, rfl⟩
  rw [hy] at HY
  obtain ⟨i1, hi1⟩ : ∃ i1, inn F E = i1 := ⟨_, rfl⟩
  obtain ⟨i2, hi2⟩ : ∃ i2, (r.any fun t => !inn (d.f s) (d.f t.toNat)) = i2 := ⟨_, rfl⟩
  rw [hi2] at HCX HX
  rw [hF, hE, hi1] at HX
  rw [hi1] at HY
  obtain ⟨ok, hok⟩ : ∃ ok, keepsT d s r = ok := ⟨_, rfl⟩
  rw [hok] at HX ⊢
  clear hw1 hw2 hD z1 k1 k2 d1 d2 b2 t1 t2 hn2 hn3 hF hE hd hU hr e1 e2 e3 hi1 hi2 hok
  have hmf : ∀ (fn : Fn) (first cap : Array Value) (w : World), (Instr.makeFunc fn first cap).run Tryd.prog w = .ok (.func fn first cap) w := fun _ _ _ _ => rfl
  go_enter Tryd.func28, Tryd.ntmps28
  go_upto_region 1 with fail
  rw [HW1.out, HDD.out]
  clear HW1
  go_upto_region 2 with fail
  rw [HW2.out, HZ1.out]
  clear HW2
  go_quiet (fail)
  cases i1 with
  | false =>
    have hne : (y != 0) = true := by rw [HY.out]; rfl
    have HV : Hid (ok = false) := by show _ = _; rw [HX.out]; rfl
    have HBE : Hid (Below w.heap.size w (w2.drewN nq)) := below_drewN HK2.out _
    clear HX HY
    go_wp2
    go_ret
    exact ⟨by rw [HV.out]; rfl, HBE.out⟩
  | true =>
    have hne : (y != 0) = false := by rw [HY.out]; rfl
    have HV : Hid (ok = !i2) := by show _ = _; rw [HX.out]; rfl
    have HC : Hid (Calls Tryd.prog 41 #[U, .func (.func 44) #[] #[.pointer (some ⟨D + 1, 0, none⟩), .pointer (some ⟨D, 0, none⟩)]] (w2.drewN nq) fun e w' => e = .returned (.bool i2) ∧ Below (w2.drewN nq).heap.size (w2.drewN nq) w') := HCX.out _ (below_drewN (Below.refl _ _) _)
    have HBE : Hid (Below w.heap.size w (w2.drewN nq)) := below_drewN HK2.out _
    clear HX HY HCX
    go_wp2_with fail
    refine HC.out.mono ?_
    rintro e w3 ⟨rfl, k3⟩
    have HB3 : Hid (Below w.heap.size w w3) := below_step HBE.out k3
    clear k3 HC
    go_wp2
    go_ret
    exact ⟨by rw [HV.out]; rfl, HB3.out⟩
end Go.Proofs.YtdngileimmgdnaaDoor
