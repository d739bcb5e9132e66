/- subset.Run. -/
import Derived.Test.YtdngileimmgdnaaDoorG09
import Derived.Deep.MidRow
namespace Go.Proofs.YtdngileimmgdnaaDoor
open Go.RowKit
attribute [local go_sem ↓] Go.wp_at_zero Go.wp_at_succ

/-- the state behind bytes -/
def goT (d : Dt) (l : List UInt8) : Nat := l.foldl (fun s c => ((d.row s).getD (d.cl c.toNat).toNat 0).toNat) 0
theorem goT_lt {d : Dt} (h : Fits d) (l : List UInt8) : goT d l < d.S := by
  unfold goT
  have key : ∀ (l : List UInt8) (s : Nat), s < d.S → l.foldl (fun s c => ((d.row s).getD (d.cl c.toNat).toNat 0).toNat) s < d.S := by
    intro l
    induction l with
    | nil => intro s hs; exact hs
    | cons c l ih =>
      intro s hs
      refine ih _ ?_
      have hc := h.cl c.toNat (by have := c.toNat_lt; omega)
      have hl := h.rl s hs
      have hm := h.nx s hs ((d.row s).getD (d.cl c.toNat).toNat 0) (by rw [List.getD_eq_getElem?_getD, List.getElem?_eq_getElem (by omega)]; exact List.getElem_mem _)
      show ((d.row s).getD (d.cl c.toNat).toNat 0).toNat < d.S
      omega
  exact key l 0 (by have := h.s1; omega)
theorem goT_snoc (d : Dt) (l : List UInt8) (c : UInt8) : goT d (l ++ [c]) = ((d.row (goT d l)).getD (d.cl c.toNat).toNat 0).toNat := by simp [goT, List.foldl_append]
def runT (d : Dt) (t : ByteArray) : Nat := d.e (goT d t.data.toList)
theorem take_snocB (s : ByteArray) (k : Nat) (h : k < s.size) : s.data.toList.take (k + 1) = s.data.toList.take k ++ [s[k]] := by
  rw [List.take_succ_eq_append_getElem (by simpa using h)]; rfl
set_option maxRecDepth 20000 in
set_option maxHeartbeats 4000000 in
theorem run_no (d : Dt) (V1 V2 V3 : Value) (Us : List Value) (t : ByteArray) (w : World) (hd : DfAt w d V1 V2 V3 Us) (hR : rightT d = false) :
    Calls Tryd.prog 12 #[.agg (dv d.cl V1 V2 V3), .string t] w fun e w' => e = .returned (.tuple #[.int .u32 0, .int .i64 70]) ∧ Below w.heap.size w w' := by
  obtain ⟨w1, hw1⟩ : ∃ w1, w.alloc (.cells (dv d.cl V1 V2 V3) 26) = w1 := ⟨_, rfl⟩
  have k1 : Below w.heap.size w w1 := by rw [← hw1]; exact (Below.refl _ _).alloc (Nat.le_refl _) _
  have HD : Hid (DB w1 w.heap.size d.cl V1 V2 V3) := by rw [← hw1]; exact db_new w _ V1 V2 V3
  have HC : Hid (Calls Tryd.prog 11 #[.agg (dv d.cl V1 V2 V3)] w1 fun e w' => e = .returned (.bool (rightT d)) ∧ Below w1.heap.size w1 w') := right_any d V1 V2 V3 Us w1 (hd.later k1)
  rw [hR] at HC
  have HW1 : Hid (w.alloc (.cells (dv d.cl V1 V2 V3) 26) = w1) := hw1
  have HK1 : Hid (Below w.heap.size w w1) := k1
  clear hw1 k1 hd hR
  go_enter Tryd.func12, Tryd.ntmps12
  go_upto_region 1 with fail
  rw [HW1.out]
  clear HW1
  go_wp2_with (refine wpList_load_dfa rfl (.tmp 2) rfl HD.out rfl ?_)
  refine HC.out.mono ?_
  rintro e w2 ⟨rfl, k2⟩
  have HB : Hid (Below w.heap.size w w2) := below_step HK1.out k2
  clear k2 HC
  go_wp2
  go_ret2
  exact ⟨rfl, HB.out⟩
set_option maxRecDepth 20000 in
set_option maxHeartbeats 8000000 in
theorem run_yes (d : Dt) (V1 V2 V3 : Value) (Us : List Value) (t : ByteArray) (w : World) (hd : DfAt w d V1 V2 V3 Us) (hR : rightT d = true) (ht : t.size ≤ maxLen) :
    Calls Tryd.prog 12 #[.agg (dv d.cl V1 V2 V3), .string t] w fun e w' => e = .returned (.tuple #[.int .u32 (runT d t : Nat), .int .i64 0]) ∧ Below w.heap.size w w' := by
  unfold maxLen at ht
  have hF := (fits_iff d).1 hR
  obtain ⟨w1, hw1⟩ : ∃ w1, w.alloc (.cells (dv d.cl V1 V2 V3) 26) = w1 := ⟨_, rfl⟩
  have k1 : Below w.heap.size w w1 := by rw [← hw1]; exact (Below.refl _ _).alloc (Nat.le_refl _) _
  obtain ⟨D, hD⟩ : ∃ D, w.heap.size = D := ⟨_, rfl⟩
  have HD : Hid (DB w1 D d.cl V1 V2 V3) := by rw [← hw1, ← hD]; exact db_new w _ V1 V2 V3
  have HC : Hid (Calls Tryd.prog 11 #[.agg (dv d.cl V1 V2 V3)] w1 fun e w' => e = .returned (.bool (rightT d)) ∧ Below w1.heap.size w1 w') := right_any d V1 V2 V3 Us w1 (hd.later k1)
  rw [hR] at HC
  obtain ⟨a1, c1, a2, c2, a3, c3, e1, e2, e3, l1, m1, l2, m2, l3, m3⟩ := hd.forms
  have HE1 : Hid (V1 = .slice a1 d.S c1) := e1
  have HE3 : Hid (V3 = .slice a3 d.en.length c3) := e3
  have HT1 : Hid (DfAt w1 d V1 V2 V3 Us) := hd.later k1
  have HW1 : Hid (w.alloc (.cells (dv d.cl V1 V2 V3) 26) = w1) := hw1
  have HK1 : Hid (Below w.heap.size w w1) := k1
  have HF : Hid (Fits d) := hF
  have HDD : Hid (w.heap.size = D) := hD
  obtain ⟨S, hS⟩ : ∃ S, d.S = S := ⟨_, rfl⟩
  have HSS : Hid (d.S = S) := hS
  have hs2 := hF.s2
  have hs1 := hF.s1
  have hle := hF.le
  rw [hS] at l1 hs2 hs1 hle
  have HLE : Hid (d.en.length = S) := hle
  rw [hle] at l3
  obtain ⟨R, hRR⟩ : ∃ R, runT d t = R := ⟨_, rfl⟩
  have HRR : Hid (runT d t = R) := hRR
  rw [hRR]
  clear hw1 k1 hd hR hF hD e1 e2 e3 hS hle hRR l2 m2
  go_enter Tryd.func12, Tryd.ntmps12
  go_upto_region 1 with fail
  rw [HW1.out, HDD.out]
  clear HW1
  go_wp2_with (refine wpList_load_dfa rfl (.tmp 2) rfl HD.out rfl ?_)
  refine HC.out.mono ?_
  rintro e w2 ⟨rfl, k2⟩
  have HB : Hid (Below w.heap.size w w2) := below_step HK1.out k2
  have HD2 : Hid (DB w2 D d.cl V1 V2 V3) := HD.out.later k2
  have HT2 : Hid (DfAt w2 d V1 V2 V3 Us) := HT1.out.later k2
  clear k2 HC HK1 HD HT1
  go_wp2_with fail
  go_loopw [6, 13] (fun s i u => ∃ k : Nat, k ≤ t.size ∧ i = .int .i64 (k : Nat) ∧ s = .int .i64 (goT d (t.data.toList.take k) : Nat) ∧ Hid (Below w2.heap.size w2 u)) (fun _ i _ => t.size - (intOf i).toNat)
  case atStart => exact ⟨0, Nat.zero_le _, rfl, rfl, Below.refl _ _⟩
  case round =>
    obtain ⟨k, hk, rfl, rfl, HU⟩ := hrel
    have hg := goT_lt HF.out (t.data.toList.take k)
    have HDR : Hid (DB wr D d.cl V1 V2 V3) := HD2.out.later HU.out
    have HTR : Hid (DfAt wr d V1 V2 V3 Us) := HT2.out.later HU.out
    by_cases hlt : k < t.size
    · have HG : Hid (goT d (t.data.toList.take (k + 1)) = ((d.row (goT d (t.data.toList.take k))).getD (d.cl t[k].toNat).toNat 0).toNat) := by
        show _ = _
        rw [take_snocB t k hlt, goT_snoc]
      have hcl := HF.out.cl t[k].toNat (by have := t[k].toNat_lt; omega)
      have hrl := HF.out.rl _ hg
      have hcb := t[k].toNat_lt
      obtain ⟨G, hGG⟩ : ∃ G, goT d (t.data.toList.take k) = G := ⟨_, rfl⟩
      rw [hGG] at hg HG hrl ⊢
      obtain ⟨q1, _, _⟩ := HDR.out.hi
      have q0 := HDR.out.lo (i := t[k].toNat) (by omega)
      rw [HE1.out, HSS.out] at q1
      obtain ⟨b1, o1, U, rfl, hcU, hU⟩ := HTR.out.rowAt (s := G) hg HE1.out
      obtain ⟨ua, uc, rfl, lU, mU, hat⟩ := hU.intAt
      obtain ⟨cz, hcz⟩ : ∃ cz : Nat, d.cl t[k].toNat = (cz : Int) := ⟨(d.cl t[k].toNat).toNat, by omega⟩
      rw [hcz] at hcl q0 HG
      rw [Int.toNat_natCast] at HG
      obtain ⟨b2, o2, rfl, hc2⟩ := hat cz (by omega)
      have hmem := HF.out.nx G hg ((d.row G).getD cz 0) (by rw [List.getD_eq_getElem?_getD, List.getElem?_eq_getElem (by omega)]; exact List.getElem_mem _)
      obtain ⟨z, hz⟩ : ∃ z : Nat, (d.row G).getD cz 0 = (z : Int) := ⟨((d.row G).getD cz 0).toNat, by omega⟩
      rw [hz] at hc2 HG
      rw [Int.toNat_natCast] at HG
      have hcz1 : cz < d.C := by omega
      have hcz2 : cz < (d.row G).length := by omega
      rw [HSS.out] at hg
      obtain ⟨L, hL⟩ : ∃ L, (d.row G).length = L := ⟨_, rfl⟩
      rw [hL] at hcU lU hcz2
      clear hGG hcz hz hcl hmem hrl hat hU hL
      go_wp2_with fail
      go_quiet (fail)
      have HUE : Hid (Below w2.heap.size w2 (wr.drewN nq)) := below_drewN HU.out _
      clear HU
      go_wp2
      go_roundw
      case rel => exact ⟨k + 1, by omega, by go_num, by rw [HG.out], HUE⟩
      case measure => simp [intOf]; omega
    · have hke : t.data.toList.take k = t.data.toList := List.take_of_length_le (by simp; omega)
      rw [hke] at hg ⊢
      obtain ⟨_, _, q3⟩ := HDR.out.hi
      rw [HE3.out, HLE.out] at q3
      have hel : goT d t.data.toList < d.en.length := by rw [HLE.out, ← HSS.out]; exact hg
      obtain ⟨b3, o3, rfl, hc3, h32⟩ := HTR.out.enAt hel HE3.out
      have HRX : Hid (d.e (goT d t.data.toList) = R) := HRR.out
      rw [HRX.out] at hc3 h32
      rw [HSS.out] at hg
      obtain ⟨G, hGG⟩ : ∃ G, goT d t.data.toList = G := ⟨_, rfl⟩
      rw [hGG] at hg hc3 ⊢
      have HUB : Hid (Below w.heap.size w wr) := below_step HB.out HU.out
      clear hGG hke HRX hel HU
      go_wp2
      go_ret2
      exact ⟨rfl, HUB.out⟩
end Go.Proofs.YtdngileimmgdnaaDoor

/- table.image and Encode. -/
namespace Go.Proofs.YtdngileimmgdnaaDoor
open Go.RowKit
attribute [local go_sem ↓] Go.wp_at_zero Go.wp_at_succ

theorem wpList_load_cls {ops : Array Oper} {rest : List Oper} {o : Oper} {a : Act} {w : World} {Q : Exit → Act → World → Prop} (hgd : o.guard = none) (x : Operand) (ho : o.op = .load 22 x) {A k : Nat} {f : Nat → Int} (h : ∀ i, i < 256 → w.cell? ⟨A, k + i, none⟩ = some (.int .i64 (f i))) (hx : a.eval x = .pointer (some ⟨A, k, none⟩))
    (hk : wpList Tryd.prog ops Q rest (a.put o.dst (.agg (cv f))) w) : wpList Tryd.prog ops Q (o :: rest) a w := by
  refine wpList_load_mid hgd 22 x ho A k hx (cv f).toList _ (fun j v hj => ?_) underArr rfl (by rw [Array.length_toList, cv_size]; exact sizeArr) (by simpa using hk)
  have hl := (List.getElem?_eq_some_iff.1 hj).1
  rw [Array.length_toList, cv_size] at hl
  rw [Array.getElem?_toList, cv_at f hl] at hj
  cases hj
  exact h j hl
theorem wpList_append_bytesG {w : World} {ops : Array Oper} {rest : List Oper} {o : Oper} {a : Act} {Q : Exit → Act → World → Prop} (hgd : o.guard = none) (s x : Operand)
    (ho : o.op = .call { callee := .builtin .append, args := #[s, x], argTypes := #[28, 28] })
    (B : Nat) (v : Value) (xs : List Int) (hs : a.eval s = v) (hown : OwnsN w B v xs) (hB : B ≤ w.heap.size) (p : Option Addr) (cap n : Nat) (zs : List Int) (hn : n = zs.length) (hx : a.eval x = .slice p n cap) (hb : BytesAt w p zs)
    (hl : xs.length + zs.length ≤ 140737488355328)
    (h : ∀ v' w', OwnsN w' B v' (xs ++ zs) → w.grownBy w' v.ownBlock → wpList Tryd.prog ops Q rest (a.put o.dst v') w') : wpList Tryd.prog ops Q (o :: rest) a w := by
  subst hn
  refine wpList_plain hgd fun K hK => ?_
  obtain ⟨v', w', hr, h2, h3⟩ := run_append_bytesN w o.type B v xs hown p cap zs hb hl hB
  unfold Oper.wp execOp
  simp only [ho, resolve, invoke, builtin, Sem.run_bind, Sem.run_pure, Result.andThen_ok, List.map_toArray, List.map_cons, List.map_nil, hs, hx, hr]
  exact hK _ _ (h v' w' h2 h3)
/-- append of a text to nothing -/
theorem wpList_append_textN {w : World} {ops : Array Oper} {rest : List Oper} {o : Oper} {a : Act} {Q : Exit → Act → World → Prop} (hgd : o.guard = none) (s x : Operand)
    (ho : o.op = .call { callee := .builtin .append, args := #[s, x], argTypes := #[28, 9] })
    (B : Nat) (hs : a.eval s = .slice none 0 0) (t : ByteArray) (hx : a.eval x = .string t) (hn : t.size ≠ 0)
    (hl : t.size ≤ 140737488355328) (hB : B ≤ w.heap.size)
    (h : ∀ v' w', OwnsN w' B v' (Rec.str t) → w.grownBy w' none → wpList Tryd.prog ops Q rest (a.put o.dst v') w') : wpList Tryd.prog ops Q (o :: rest) a w := by
  obtain ⟨i0, hi, hz0, hz1, hz2⟩ := info_parts info5
  refine Lib.wpList_append_own_string (P := Tryd.prog) w hgd s x 28 9 ho B 5 i0 Tryd.underlying28 Tryd.underlying9 hi hz0 hz1 hz2 (.slice none 0 0) 0 [] hs (World.ownsRow_nil w B 5 1) t hx (by simp only [maxLen]; omega) (by omega) hB ?_
  intro v' w' h1 h2 h3
  have hne : v' ≠ .slice none 0 0 := fun e => hn (h3.1 e).2
  refine h v' w' ⟨?_, fun e => absurd (congrArg List.length e) (by rw [Rec.str_length]; simpa using hn), fun _ => hne⟩ h2
  rw [← strCells_eq, Rec.str_length]
  simpa using h1
/-- THE IMAGE SO FAR, in a box -/
structure Im (w1 u : World) (B : Nat) (xs : List Int) : Prop where
  box : ∃ V, BX u B V 28 ∧ OwnsN u w1.heap.size V xs
  low : Below w1.heap.size w1 u
  hB : w1.heap.size ≤ B
theorem OwnsN.ty {w : World} {B : Nat} {v : Value} {zs : List Int} (h : OwnsN w B v zs) : ∀ b, v.ownBlock = some b → b < w.heap.size ∧ TyB w 5 b := fun b hb => by
  rcases h.1.2 with ⟨rfl, _⟩ | ⟨g, cap, cur, rfl, hbg, hg, _⟩
  · simp [Value.ownBlock] at hb
  · simp [Value.ownBlock] at hb
    subst hb
    exact ⟨(Array.getElem?_eq_some_iff.1 hg).1, ⟨_, _, hg⟩⟩
theorem OwnsN.same {w w' : World} {B : Nat} {v : Value} {zs : List Int} (h : OwnsN w B v zs) (hk : ∀ b, v.ownBlock = some b → w'.heap[b]? = w.heap[b]?) : OwnsN w' B v zs := by
  refine ⟨⟨h.1.1, ?_⟩, h.2⟩
  rcases h.1.2 with h2 | ⟨g, cap, cur, hv, hBg, hg, rest⟩
  · exact Or.inl h2
  · exact Or.inr ⟨g, cap, cur, hv, hBg, by rw [hk g (by rw [hv]; rfl)]; exact hg, rest⟩
theorem BX.ty {w : World} {A : Nat} {v : Value} {t : TypeId} (h : BX w A v t) : TyB w t A := ⟨_, _, h⟩
theorem BX.lt {w : World} {A : Nat} {v : Value} {t : TypeId} (h : BX w A v t) : A < w.heap.size := (Array.getElem?_eq_some_iff.1 h).1
theorem BX.set {w : World} {A : Nat} {v : Value} {t : TypeId} (h : BX w A v t) (x : Value) : BX (w.setCell ⟨A, 0, none⟩ x) A x t := by
  unfold BX
  rw [heap_set h]
  rfl
theorem BX.frozen {w : World} {A : Nat} {v : Value} {t : TypeId} (h : BX w A v t) : w.frozen? ⟨A, 0, none⟩ = false := by
  unfold BX at h
  simp [World.frozen?, h]
/-- more is laid -/
theorem Im.next {w1 u u2 w3 : World} {B : Nat} {xs ys : List Int} {V V' : Value} (hb : BX u B V 28) (hV : OwnsN u w1.heap.size V xs) (hl : Below w1.heap.size w1 u) (hB : w1.heap.size ≤ B) (h2 : Below u.heap.size u u2) (ho : OwnsN w3 w1.heap.size V' ys) (hg : u2.grownBy w3 V.ownBlock) : Im w1 (w3.setCell ⟨B, 0, none⟩ V') B ys := by
  have hBl := hb.lt
  have hs := h2.size
  have hs3 := hg.size
  have hBne : ∀ b, V.ownBlock = some b → b ≠ B := fun b hb2 e => by
    subst e
    exact absurd (TyB.ne (hV.ty b hb2).2 hb.ty) (by decide)
  have hb3 : BX w3 B V 28 := by
    refine (hg.block B (by omega) (fun e => hBne B e.symm rfl)).trans (hb.later h2)
  have hl3 : Below w1.heap.size w1 w3 := (below_step hl h2).grown hg (below_step hl h2).size (fun b hb2 => hV.block b hb2)
  refine ⟨⟨V', hb3.set V', ho.same (fun b hb2 => Below.heap_setCell w3 ⟨B, 0, none⟩ V' b (fun e => ?_))⟩, hl3.setCell (p := ⟨B, 0, none⟩) hB V', hB⟩
  have e2 : b = B := e
  subst e2
  exact absurd (TyB.ne (ho.ty b hb2).2 hb3.ty) (by decide)
set_option maxHeartbeats 2000000 in
theorem lay1_any (w1 : World) (B : Nat) (xs : List Int) (v n : Nat) (u : World) (h : Im w1 u B xs) (hv : v < 256 ^ n) (hn1 : 1 ≤ n) (hn : n ≤ 8) (hl : xs.length ≤ 100000000) :
    Calls Tryd.prog 33 #[.int .u64 (v : Nat), .int .i64 (n : Nat), .pointer (some ⟨B, 0, none⟩)] u fun e w' => e = .returned (.tuple #[]) ∧ Im w1 w' B (xs ++ Rec.num v n) := by
  obtain ⟨⟨V, hb, hV⟩, hlow, hB⟩ := h
  have HC : Hid (Calls Tryd.prog 34 #[.int .u64 (v : Nat), .int .i64 (n : Nat)] u fun e w' => ∃ v', e = .returned (.tuple #[v', .int .i64 0]) ∧ Owns w' u.heap.size v' (Rec.num v n) ∧ Below u.heap.size u w') :=
    num_yes v n u (Nat.lt_of_lt_of_le hv (by have := Rec.pow_le hn; rw [Rec.pow8] at this; exact this)) hn1 hn hv
  have HB : Hid (BX u B V 28) := hb
  have HV : Hid (OwnsN u w1.heap.size V xs) := hV
  have HL : Hid (Below w1.heap.size w1 u) := hlow
  have HBB : Hid (w1.heap.size ≤ B) := hB
  have HXL : Hid (xs.length ≤ 100000000) := hl
  have HNN : Hid (n ≤ 8) := hn
  clear hb hV hlow hB hl hn hv hn1
  go_enter Tryd.func33, Tryd.ntmps33
  go_wp2_with fail
  refine HC.out.mono ?_
  rintro e u2 ⟨v', rfl, ho2, k2⟩
  obtain ⟨g, c, rfl, _, _, hbt, _⟩ := ho2.form
  have hbc := (HB.out.later k2).cell
  have hbf := (HB.out.later k2).frozen
  have HBT : Hid (BytesAt u2 (some ⟨g, 0, none⟩) (Rec.num v n)) := hbt
  have HK2 : Hid (Below u.heap.size u u2) := k2
  have HV2 : Hid (OwnsN u2 w1.heap.size V xs) := HV.out.later k2
  have HNL : Hid ((Rec.num v n).length = n) := Rec.num_length v n
  rw [HNL.out]
  clear hbt k2 ho2 HC
  go_wp2_with (at_builtin; refine wpList_append_bytesG rfl (.tmp 13) (.tmp 14) rfl w1.heap.size V xs rfl HV2.out (by have := HL.out.size; have := HK2.out.size; omega) _ c n (Rec.num v n) HNL.out.symm rfl HBT.out (by have := HXL.out; have := HNN.out; have := HNL.out; omega) ?_; intro v5 w5 ho5 hg5; obtain ⟨a5, c5, rfl, -⟩ := ho5.form; obtain ⟨L5, hL5⟩ : ∃ L, (xs ++ Rec.num v n).length = L := ⟨_, rfl⟩; rw [hL5] at ho5 ⊢; have HO5 : Hid (Im w1 (w5.setCell ⟨B, 0, none⟩ (.slice a5 L5 c5)) B (xs ++ Rec.num v n)) := Im.next HB.out HV.out HL.out HBB.out HK2.out ho5 hg5; have hb5 : BX w5 B V 28 := ((hg5.block B (by have := HB.out.lt; have := HK2.out.size; omega) (fun e => absurd (TyB.ne (HV.out.ty B e.symm).2 HB.out.ty) (by decide))).trans (HB.out.later HK2.out)); have hc5 := hb5.cell; have hf5 := hb5.frozen; clear ho5 hg5 hb5 hbc hbf hL5)
  go_end0
  exact ⟨rfl, HO5.out⟩
end Go.Proofs.YtdngileimmgdnaaDoor
