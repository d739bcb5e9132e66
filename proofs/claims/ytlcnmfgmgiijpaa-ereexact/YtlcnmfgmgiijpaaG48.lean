/- The document's items of layer 4: a set in brackets. -/
import Derived.Test.YtlcnmfgmgiijpaaG47
import Derived.Test.YtlcnmfgmgiijpaaG44
import Derived.Test.YtlcnmfgmgiijpaaG14
namespace Go.Proofs.Ytlcnmfgmgiijpaa
open Go.RowKit
attribute [local go_sem ↓] Go.wp_at_zero Go.wp_at_succ

/-- a set but for the newline -/
def mn (a : Oct.S) : Oct.S := addS Oct.none a
theorem mn_none : mn Oct.none = Oct.none := by funext x; simp [mn, addS, Oct.none]
theorem mn_add (a b : Oct.S) : addS (mn a) b = mn (Oct.join a b) := by
  funext x
  simp only [mn, addS, Oct.none, Oct.join, Bool.false_or]
  cases a x <;> cases b x <;> cases (x == 10) <;> rfl
theorem mn_inv (a : Oct.S) : Oct.inv (mn a) = Oct.inv a := by
  funext x
  simp only [mn, addS, Oct.none, Oct.inv, Bool.false_or]
  cases a x <;> cases (x == 10) <;> rfl
theorem mn_meet (a : Oct.S) : mn a = Oct.meet a ordinary := by
  funext x
  simp [mn, addS, Oct.none, Oct.meet, ordinary, Oct.inv]
/-- the items that are still to be read -/
def goS (s : ByteArray) (o : Nat) (p : Bool) (f : Nat) (a : Oct.S) (i : Nat) : Rs Oct.S :=
  if !p && sees s i 93 then .ok a (i + 1) else match item s o i with
    | .ok b j => setLoop s o f (Oct.join a b) j
    | .bad a e => .bad a e
    | .out => .out
theorem goS_loop (s : ByteArray) (o f : Nat) (a : Oct.S) (i : Nat) : setLoop s o (f + 1) a i = goS s o false f a i := by
  rw [setLoop, goS]
  rfl
def finS (s : ByteArray) (i : Nat) (r : Rs Oct.S) : Rs Tr :=
  match r with
  | .ok b k => .ok (setT (if sees s (i + 1) 94 then Oct.inv b else Oct.meet b ordinary)) k
  | .bad a e => .bad a e
  | .out => .out
theorem setOf_go (s : ByteArray) (f i : Nat) : (match setOf s f i with
    | .ok a j => .ok (setT a) j
    | .bad a e => .bad a e
    | .out => .out : Rs Tr) = finS s i (goS s i true f Oct.none (if sees s (i + 1) 94 then i + 2 else i + 1)) := by
  rw [setOf_eq, goS]
  simp only [Bool.not_true, Bool.false_and, Bool.false_eq_true, if_false]
  cases item s i (if sees s (i + 1) 94 = true then i + 2 else i + 1) with
  | ok b j =>
    simp only
    rw [show Oct.join Oct.none b = b from by funext x; simp [Oct.join, Oct.none]]
    cases setLoop s i f b j <;> rfl
  | bad a e => rfl
  | out => rfl
/-- THE STATE: the result, the set's variable, the reader. -/
structure Iq (w : World) (s : ByteArray) (b0 B R V d : Nat) (u : World) (i : Nat) (σ : Oct.S) (e a : Nat) : Prop where
  res : NB u R zeroNd
  box : SB u V σ
  rd : RR u b0 B s i d e a
  fr : Fr b0 B w u
  hR : w.heap.size ≤ R
  hV : w.heap.size ≤ V
section
variable {w : World} {s : ByteArray} {b0 B R V d : Nat} {u u' : World} {i : Nat} {σ : Oct.S} {e a : Nat}
theorem Iq.later (h : Iq w s b0 B R V d u i σ e a) (hb : Below u.heap.size u u') : Iq w s b0 B R V d u' i σ e a := ⟨h.res.later hb, h.box.later hb, h.rd.later hb, h.fr.later hb, h.hR, h.hV⟩
theorem Iq.read (h : Iq w s b0 B R V d u i σ e a) {j d' e' a' : Nat} (hf : Fr b0 B u u') (hr : RR u' b0 B s j d' e' a') : Iq w s b0 B R V d' u' j σ e' a' := ⟨h.res.fr h.rd hf, h.box.fr h.rd hf, hr, h.fr.trans hf, h.hR, h.hV⟩
theorem Iq.at (h : Iq w s b0 B R V d u i σ e a) (j : Nat) : Iq w s b0 B R V d (u.setCell ⟨B, 1, none⟩ (.int .i64 (j : Nat))) j σ e a := h.read (Fr.set _ _ _ _ _) (h.rd.at j)
theorem Iq.put (h : Iq w s b0 B R V d u i σ e a) (τ : Oct.S) : Iq w s b0 B R V d (put4 u V τ) i τ e a := by
  have hne : R ≠ V := fun e => by
    have h1 : TyB u 28 R := ⟨_, _, h.res⟩
    have h2 : TyB u 25 R := e ▸ ⟨_, _, h.box⟩
    exact absurd (TyB.ne h1 h2) (by decide)
  exact ⟨(heap_put4 u V τ R hne).trans h.res, h.box.put4 τ, h.rd.put4 h.box τ, h.fr.put4 h.hV τ, h.hR, h.hV⟩
theorem Iq.end_ (h : Iq w s b0 B R V d u i σ 0 0) (y : Oct.S) {r : Rs Tr} (hr : r = .ok (setT y) i) (hi : i ≤ s.size) : RefT w.heap.size w b0 B s d r (.returned (Nd.val ⟨(2 : Nat), y, none, 0, 0, 0, 0⟩)) (put8 u R ⟨(2 : Nat), y, none, 0, 0, 0, 0⟩) :=
  fin_ok hr hi _ _ (NewT.leaf _ _ 2 y 0 0 none 0) (h.rd.put8 h.res _) (h.fr.put8 h.hR _)
end
set_option maxRecDepth 4000 in
set_option maxHeartbeats 8000000 in
theorem ritems_walk (b0 B i d f : Nat) (s : ByteArray) (w : World) (h : RR w b0 B s (i + 1) d 0 0) (hlt : i < s.size) (hs : s.size ≤ 1024) (hout : setOf s f i ≠ .out) : Calls Try.prog 56 #[.pointer (some ⟨B, 0, none⟩), .int .i64 (i : Nat)] w (RefT w.heap.size w b0 B s d (match setOf s f i with
    | .ok a j => .ok (setT a) j
    | .bad a e => .bad a e
    | .out => .out)) := by
  have hout2 : (match setOf s f i with
    | .ok a j => .ok (setT a) j
    | .bad a e => .bad a e
    | .out => .out : Rs Tr) ≠ .out := by
    cases hc : setOf s f i with
    | out => exact absurd hc hout
    | bad a e => simp
    | ok a j => simp
  rw [setOf_go] at hout2 ⊢
  obtain ⟨RES, hRES⟩ : ∃ RES, RES = finS s i (goS s i true f Oct.none (if sees s (i + 1) 94 then i + 2 else i + 1)) := ⟨_, rfl⟩
  rw [← hRES] at hout2 ⊢
  have HRES : Hid (RES = _) := hRES
  have HOUT : Hid (RES ≠ .out) := hout2
  have hal : Below w.heap.size w (w.alloc (.cells #[.int .i64 0, .int .u64 0, .int .u64 0, .int .u64 0, .int .u64 0, .slice none 0 0, .int .i64 0, .int .i64 0] 28)) := (Below.refl _ _).alloc (Nat.le_refl _) _
  have HN : Hid (NB (w.alloc (.cells #[.int .i64 0, .int .u64 0, .int .u64 0, .int .u64 0, .int .u64 0, .slice none 0 0, .int .i64 0, .int .i64 0] 28)) w.heap.size zeroNd) := nb_zero w
  have HR : Hid (RR (w.alloc (.cells #[.int .i64 0, .int .u64 0, .int .u64 0, .int .u64 0, .int .u64 0, .slice none 0 0, .int .i64 0, .int .i64 0] 28)) b0 B s (i + 1) d 0 0) := h.later hal
  have HF : Hid (Fr b0 B w (w.alloc (.cells #[.int .i64 0, .int .u64 0, .int .u64 0, .int .u64 0, .int .u64 0, .slice none 0 0, .int .i64 0, .int .i64 0] 28))) := Fr.of_below b0 B hal
  obtain ⟨w1, hw1⟩ : ∃ w1, w1 = w.alloc (.cells #[.int .i64 0, .int .u64 0, .int .u64 0, .int .u64 0, .int .u64 0, .slice none 0 0, .int .i64 0, .int .i64 0] 28) := ⟨_, rfl⟩
  obtain ⟨R, hR⟩ : ∃ R, R = w.heap.size := ⟨_, rfl⟩
  rw [← hw1, ← hR] at HN
  rw [← hw1] at HR HF
  have HW1 : Hid (w1 = _) := hw1
  have HRR : Hid (R = _) := hR
  have HRL : Hid (w.heap.size ≤ R) := by show _ ≤ _; omega
  clear hw1 hR hal h hout hout2 hRES
  have hi3 : i ≤ 1024 := by omega
  obtain ⟨oo, cc, c0, c1, c2, c3, c4⟩ := HR.out.cells
  have c1 : w1.cell? ⟨B, 1, none⟩ = some (.int .i64 ((i : Int) + 1)) := c1
  have HI1 : Hid (Calls Try.prog 37 #[.pointer (some ⟨B, 0, none⟩), .int .i64 ((i : Int) + 1), .int .u8 ((94 : Nat) : Int)] w1 fun x w' => x = .returned (.bool (sees s (i + 1) 94)) ∧ w' = w1) := ris_any b0 B (i + 1) d 0 0 (i + 1) 94 s w1 HR.out
  obtain ⟨tu, htu⟩ : ∃ tu, tu = sees s (i + 1) 94 := ⟨_, rfl⟩
  have HTL : Hid (tu = true → i + 2 ≤ s.size) := fun h => by rw [htu] at h; have := seesl h; omega
  obtain ⟨st, hst⟩ : ∃ st, st = if tu then i + 2 else i + 1 := ⟨_, rfl⟩
  rw [← htu] at HI1
  have HRES2 : Hid (RES = finS s i (goS s i true f Oct.none st)) := by show _ = _; rw [HRES.out, hst, htu]
  have HTU : Hid (tu = _) := htu
  have HST : Hid (st = _) := hst
  clear htu hst HRES
  go_enter Try.func56, Try.ntmps56
  go_upto_region 1 with fail
  rw [← HW1.out, ← HRR.out]
  clear HW1
  go_wp2_with fail
  refine HI1.out.mono ?_
  rintro e ux ⟨rfl, hz⟩
  subst hz
  clear HI1
  go_upto_region 2 with fail
  clear c1
  have c1 := HR.out.c1
  have c1 : ux.cell? ⟨B, 1, none⟩ = some (.int .i64 ((i : Int) + 1)) := c1
  have f1 := HR.out.frozen 1
  cases htt : tu with
  | true =>
    have HE : Hid (st = i + 2) := by show _ = _; rw [HST.out, htt]; rfl
    have HTT : Hid (sees s (i + 1) 94 = true) := by show _ = _; rw [← HTU.out, htt]
    have HSTL : Hid (i + 2 ≤ s.size) := HTL.out htt
    have HX1 : Hid (NB (ux.setCell ⟨B, 1, none⟩ (.int .i64 ((i : Int) + 1 + 1))) R zeroNd) := HN.out.fr HR.out (Fr.set _ _ _ _ _)
    have HX2 : Hid (RR (ux.setCell ⟨B, 1, none⟩ (.int .i64 ((i : Int) + 1 + 1))) b0 B s (i + 2) d 0 0) := HR.out.at (i + 2)
    have HX3 : Hid (Fr b0 B w (ux.setCell ⟨B, 1, none⟩ (.int .i64 ((i : Int) + 1 + 1)))) := HF.out.trans (Fr.set _ _ _ _ _)
    rw [HE.out] at HRES2
    clear htt HTL HTU HST HE
    go_upto_region 4 with fail
    obtain ⟨v1, hv1⟩ : ∃ v1, v1 = ux.setCell ⟨B, 1, none⟩ (.int .i64 ((i : Int) + 1 + 1)) := ⟨_, rfl⟩
    rw [← hv1] at HX1 HX2 HX3 ⊢
    obtain ⟨st2, hst2⟩ : ∃ st2, st2 = i + 2 := ⟨_, rfl⟩
    rw [← hst2] at HX2 HRES2 HSTL
    clear hv1 hst2 c0 c1 c2 c3 c4 f1 HN HR HF
    have hal : Below v1.heap.size v1 (v1.alloc (.cells #[.int .u64 0, .int .u64 0, .int .u64 0, .int .u64 0] 25)) := (Below.refl _ _).alloc (Nat.le_refl _) _
    have HS0 : Hid (Iq w s b0 B R v1.heap.size d (v1.alloc (.cells #[.int .u64 0, .int .u64 0, .int .u64 0, .int .u64 0] 25)) st2 (mn Oct.none) 0 0) := ⟨HX1.out.later hal, by rw [mn_none]; exact sb_zero v1, HX2.out.later hal, HX3.out.later hal, HRL.out, by have := HX3.out.size; omega⟩
    go_upto_region 5 with fail
    obtain ⟨v2, hv2⟩ : ∃ v2, v2 = v1.alloc (.cells #[.int .u64 0, .int .u64 0, .int .u64 0, .int .u64 0] 25) := ⟨_, rfl⟩
    obtain ⟨V, hV⟩ : ∃ V, V = v1.heap.size := ⟨_, rfl⟩
    rw [← hv2, ← hV] at HS0 ⊢
    clear hv2 hV hal HX1 HX2 HX3
    go_wp2_with fail
    go_loopw [7] (fun v u => ∃ (p : Bool) (f' : Nat) (a : Oct.S) (j : Nat), v = .bool p ∧ j ≤ s.size ∧ Hid (Iq w s b0 B R V d u j (mn a) 0 0) ∧ Hid (RES = finS s i (goS s i p f' a j))) (fun _ u => 4000 - (intOf ((u.cell? ⟨B, 1, none⟩).getD undef)).toNat)
    case atStart => exact ⟨true, f, Oct.none, st2, rfl, HSTL.out, HS0, HRES2⟩
    case round =>
      clear HS0 HRES2
      obtain ⟨p, f', a, j, rfl, hj, hq, hre⟩ := hrel
      have HMS : Hid (4000 - (intOf ((wr.cell? ⟨B, 1, none⟩).getD undef)).toNat = 4000 - j) := by show _ = _; rw [hq.out.rd.c1]; simp [intOf]
      have hj3 : j ≤ 1024 := by omega
      obtain ⟨oo, cc, c0, c1, c2, c3, c4⟩ := hq.out.rd.cells
      cases p with
      | true =>
        have HRE : Hid (RES = finS s i (match item s i j with
          | .ok b j' => setLoop s i f' (Oct.join a b) j'
          | .bad a e => .bad a e
          | .out => .out)) := by show _ = _; rw [hre.out, goS]; rfl
        clear hre
        go_wp2_with fail
        refine (rmore_any b0 B j d 0 0 j s _ hq.out.rd).mono ?_
        rintro e uz ⟨rfl, hz⟩
        subst hz
        by_cases hjl : j < s.size
        · rw [decide_eq_true hjl]
          obtain ⟨x, hx⟩ : ∃ x, x = mn a := ⟨_, rfl⟩
          rw [← hx] at hq
          have HXX : Hid (x = mn a) := hx
          clear hx
          obtain ⟨a0, a1, a2, a3⟩ := hq.out.box.cells
          clear c0 c1 c2 c3 c4
          go_wp2_with fail
          refine (ritem_walk b0 B i j d x s _ hq.out.rd hjl hs).mono ?_
          intro e u4 h4
          clear a0 a1 a2 a3
          cases hc : item s i j with
          | out => rw [hc] at h4; exact h4.elim
          | bad aa c =>
            rw [hc] at h4
            obtain ⟨hc0, τ, j', d', rfl, hr4, hf4⟩ := h4
            have HX : Hid (RES = .bad aa c) := by show _ = _; rw [HRE.out, hc]; rfl
            have HS4 : Hid (Iq w s b0 B R V d' u4 j' x c aa) := hq.out.read hf4 hr4
            have HS5 : Hid (Iq w s b0 B R V d' (put4 u4 V τ) j' τ c aa) := HS4.out.put τ
            clear hc hr4 hf4 HRE
            obtain ⟨a0, a1, a2, a3⟩ := HS4.out.box.cells
            have g0 := HS4.out.box.frozen 0
            have g1 := HS4.out.box.frozen 1
            have g2 := HS4.out.box.frozen 2
            have g3 := HS4.out.box.frozen 3
            unfold setV
            go_upto_region 11 with fail
            obtain ⟨u5, hu5⟩ : ∃ u5, u5 = put4 u4 V τ := ⟨_, rfl⟩
            have HU5 : Hid ((((u4.setCell ⟨V, 0, none⟩ (.int .u64 (Oct.word τ 0 : Nat))).setCell ⟨V, 1, none⟩ (.int .u64 (Oct.word τ 1 : Nat))).setCell ⟨V, 2, none⟩ (.int .u64 (Oct.word τ 2 : Nat))).setCell ⟨V, 3, none⟩ (.int .u64 (Oct.word τ 3 : Nat)) = u5) := hu5.symm
            rw [HU5.out]
            rw [← hu5] at HS5
            clear hu5 HU5 a0 a1 a2 a3 g0 g1 g2 g3
            obtain ⟨oo, cc, c0, c1, c2, c3, c4⟩ := HS5.out.rd.cells
            have q0 : ((c : Int) == 0) = false := by simp <;> omega
            have q1 : ((c : Int) != 0) = true := by simp <;> omega
            obtain ⟨z0, z1, z2, z3, z4, z5, z6, z7⟩ := HS5.out.res.cells
            have y0 := HS5.out.res.frozen 0
            have y1 := HS5.out.res.frozen 1
            have y2 := HS5.out.res.frozen 2
            have y3 := HS5.out.res.frozen 3
            have y4 := HS5.out.res.frozen 4
            have y5 := HS5.out.res.frozen 5
            have y6 := HS5.out.res.frozen 6
            have y7 := HS5.out.res.frozen 7
            go_wp2
            show bodyPost _ _ _ _ _ (put8z _ R 0 none 0 0 0 0)
            rw [put8z_eq]
            exact post_node Try.f56 4 rfl rfl rfl (HS5.out.res.put8 _) (fin_bad HX.out hc0 _ _ (newT_zero _ _) (HS5.out.rd.put8 HS5.out.res _) (HS5.out.fr.put8 HRL.out _))
          | ok bb j' =>
            have hjj := item_ge hc
            rw [hc] at h4
            obtain ⟨hj', rfl, hr4, hf4⟩ := h4
            obtain ⟨f2, rfl⟩ : ∃ f2, f' = f2 + 1 := by
              cases f' with
              | zero => exact absurd (by rw [HRE.out, hc]; rfl) HOUT.out
              | succ f2 => exact ⟨f2, rfl⟩
            have HRE2 : Hid (RES = finS s i (goS s i false f2 (Oct.join a bb) j')) := by show _ = _; rw [HRE.out, hc, ← goS_loop]
            have HS4 : Hid (Iq w s b0 B R V d u4 j' x 0 0) := hq.out.read hf4 hr4
            have HS5 : Hid (Iq w s b0 B R V d (put4 u4 V (addS x bb)) j' (mn (Oct.join a bb)) 0 0) := by have h5 := HS4.out.put (addS x bb); rw [← mn_add, ← HXX.out]; exact h5
            clear hc hr4 hf4 HRE
            obtain ⟨a0, a1, a2, a3⟩ := HS4.out.box.cells
            have g0 := HS4.out.box.frozen 0
            have g1 := HS4.out.box.frozen 1
            have g2 := HS4.out.box.frozen 2
            have g3 := HS4.out.box.frozen 3
            obtain ⟨τ, hτ⟩ : ∃ τ, τ = addS x bb := ⟨_, rfl⟩
            rw [← hτ] at HS5 ⊢
            clear hτ
            unfold setV
            go_upto_region 11 with fail
            obtain ⟨u5, hu5⟩ : ∃ u5, u5 = put4 u4 V τ := ⟨_, rfl⟩
            have HU5 : Hid ((((u4.setCell ⟨V, 0, none⟩ (.int .u64 (Oct.word τ 0 : Nat))).setCell ⟨V, 1, none⟩ (.int .u64 (Oct.word τ 1 : Nat))).setCell ⟨V, 2, none⟩ (.int .u64 (Oct.word τ 2 : Nat))).setCell ⟨V, 3, none⟩ (.int .u64 (Oct.word τ 3 : Nat)) = u5) := hu5.symm
            rw [HU5.out]
            rw [← hu5] at HS5
            clear hu5 HU5 a0 a1 a2 a3 g0 g1 g2 g3
            obtain ⟨oo, cc, c0, c1, c2, c3, c4⟩ := HS5.out.rd.cells
            go_wp2
            go_roundw
            case rel => exact ⟨false, f2, Oct.join a bb, j', rfl, hj', HS5, HRE2⟩
            case measure =>
              rw [HMS.out, HS5.out.rd.c1]
              simp [intOf]
              omega
        · rw [decide_eq_false hjl]
          have hje : j = s.size := by omega
          have HX : Hid (RES = .bad i 43) := by show _ = _; rw [HRE.out, show item s i j = .bad i 43 from by unfold item; rw [if_pos hje]]; rfl
          clear HRE hje
          go_wp2_with fail
          refine (rfault_lit b0 B j d 43 i _ rfl s _ hq.out.rd).mono ?_
          rintro e u6 ⟨rfl, hr6, hf6⟩
          have HS6 : Hid (Iq w s b0 B R V d u6 j (mn a) 43 i) := hq.out.read hf6 hr6
          clear hr6 hf6 c0 c1 c2 c3 c4
          unfold zeroNd Nd.val
          obtain ⟨z0, z1, z2, z3, z4, z5, z6, z7⟩ := HS6.out.res.cells
          have y0 := HS6.out.res.frozen 0
          have y1 := HS6.out.res.frozen 1
          have y2 := HS6.out.res.frozen 2
          have y3 := HS6.out.res.frozen 3
          have y4 := HS6.out.res.frozen 4
          have y5 := HS6.out.res.frozen 5
          have y6 := HS6.out.res.frozen 6
          have y7 := HS6.out.res.frozen 7
          go_wp2
          show bodyPost _ _ _ _ _ (put8 _ R zeroNd)
          exact post_node Try.f56 4 rfl rfl rfl (HS6.out.res.put8 zeroNd) (fin_bad HX.out (by decide) zeroNd _ (newT_zero _ _) (HS6.out.rd.put8 HS6.out.res zeroNd) (HS6.out.fr.put8 HRL.out zeroNd))
      | false =>
        go_wp2_with fail
        refine (ris_any b0 B j d 0 0 j 93 s _ hq.out.rd).mono ?_
        rintro e uy ⟨rfl, hz⟩
        subst hz
        cases h93 : sees s j 93 with
        | true =>
          have HX : Hid (RES = .ok (setT (Oct.inv (mn a))) (j + 1)) := by show _ = _; rw [hre.out, goS, h93]; show finS s i (.ok a (j + 1)) = _; unfold finS; simp only; rw [HTT.out]; rw [mn_inv]; rfl
          have hjl := seesl h93
          clear hre h93
          have f1 := hq.out.rd.frozen 1
          have HS1 : Hid (Iq w s b0 B R V d (uy.setCell ⟨B, 1, none⟩ (.int .i64 ((j : Int) + 1))) (j + 1) (mn a) 0 0) := hq.out.at (j + 1)
          go_upto_region 14 with fail
          obtain ⟨u1, hu1⟩ : ∃ u1, u1 = uy.setCell ⟨B, 1, none⟩ (.int .i64 ((j : Int) + 1)) := ⟨_, rfl⟩
          rw [← hu1] at HS1 ⊢
          clear hu1 c0 c1 c2 c3 c4 f1
          obtain ⟨x, hx⟩ : ∃ x, x = mn a := ⟨_, rfl⟩
          rw [← hx] at HS1 HX
          clear hx
          obtain ⟨a0, a1, a2, a3⟩ := HS1.out.box.cells
          go_wp2_with fail
          refine (rnot_any x _).mono ?_
          rintro e u2 ⟨rfl, hb2⟩
          have HS2 : Hid (Iq w s b0 B R V d u2 (j + 1) x 0 0) := HS1.out.later hb2
          clear hb2 a0 a1 a2 a3
          obtain ⟨y, hy⟩ : ∃ y, y = Oct.inv x := ⟨_, rfl⟩
          rw [← hy] at HX ⊢
          clear hy
          unfold setV
          go_wp2_with fail
          refine (rset_any y _).mono ?_
          rintro e u3 ⟨rfl, hb3⟩
          have HS3 : Hid (Iq w s b0 B R V d u3 (j + 1) x 0 0) := HS2.out.later hb3
          clear hb3
          unfold Nd.val
          obtain ⟨z0, z1, z2, z3, z4, z5, z6, z7⟩ := HS3.out.res.cells
          have y0 := HS3.out.res.frozen 0
          have y1 := HS3.out.res.frozen 1
          have y2 := HS3.out.res.frozen 2
          have y3 := HS3.out.res.frozen 3
          have y4 := HS3.out.res.frozen 4
          have y5 := HS3.out.res.frozen 5
          have y6 := HS3.out.res.frozen 6
          have y7 := HS3.out.res.frozen 7
          go_wp2
          show bodyPost _ _ _ _ _ (put8 _ R ⟨(2 : Nat), y, none, 0, 0, 0, 0⟩)
          exact post_node Try.f56 4 rfl rfl rfl (HS3.out.res.put8 ⟨(2 : Nat), y, none, 0, 0, 0, 0⟩) (HS3.out.end_ y HX.out (by omega))
        | false =>
          have HRE : Hid (RES = finS s i (match item s i j with
            | .ok b j' => setLoop s i f' (Oct.join a b) j'
            | .bad a e => .bad a e
            | .out => .out)) := by show _ = _; rw [hre.out, goS, h93]; rfl
          clear hre h93
          go_wp2_with fail
          refine (rmore_any b0 B j d 0 0 j s _ hq.out.rd).mono ?_
          rintro e uz ⟨rfl, hz⟩
          subst hz
          by_cases hjl : j < s.size
          · rw [decide_eq_true hjl]
            obtain ⟨x, hx⟩ : ∃ x, x = mn a := ⟨_, rfl⟩
            rw [← hx] at hq
            have HXX : Hid (x = mn a) := hx
            clear hx
            obtain ⟨a0, a1, a2, a3⟩ := hq.out.box.cells
            clear c0 c1 c2 c3 c4
            go_wp2_with fail
            refine (ritem_walk b0 B i j d x s _ hq.out.rd hjl hs).mono ?_
            intro e u4 h4
            clear a0 a1 a2 a3
            cases hc : item s i j with
            | out => rw [hc] at h4; exact h4.elim
            | bad aa c =>
              rw [hc] at h4
              obtain ⟨hc0, τ, j', d', rfl, hr4, hf4⟩ := h4
              have HX : Hid (RES = .bad aa c) := by show _ = _; rw [HRE.out, hc]; rfl
              have HS4 : Hid (Iq w s b0 B R V d' u4 j' x c aa) := hq.out.read hf4 hr4
              have HS5 : Hid (Iq w s b0 B R V d' (put4 u4 V τ) j' τ c aa) := HS4.out.put τ
              clear hc hr4 hf4 HRE
              obtain ⟨a0, a1, a2, a3⟩ := HS4.out.box.cells
              have g0 := HS4.out.box.frozen 0
              have g1 := HS4.out.box.frozen 1
              have g2 := HS4.out.box.frozen 2
              have g3 := HS4.out.box.frozen 3
              unfold setV
              go_upto_region 11 with fail
              obtain ⟨u5, hu5⟩ : ∃ u5, u5 = put4 u4 V τ := ⟨_, rfl⟩
              have HU5 : Hid ((((u4.setCell ⟨V, 0, none⟩ (.int .u64 (Oct.word τ 0 : Nat))).setCell ⟨V, 1, none⟩ (.int .u64 (Oct.word τ 1 : Nat))).setCell ⟨V, 2, none⟩ (.int .u64 (Oct.word τ 2 : Nat))).setCell ⟨V, 3, none⟩ (.int .u64 (Oct.word τ 3 : Nat)) = u5) := hu5.symm
              rw [HU5.out]
              rw [← hu5] at HS5
              clear hu5 HU5 a0 a1 a2 a3 g0 g1 g2 g3
              obtain ⟨oo, cc, c0, c1, c2, c3, c4⟩ := HS5.out.rd.cells
              have q0 : ((c : Int) == 0) = false := by simp <;> omega
              have q1 : ((c : Int) != 0) = true := by simp <;> omega
              obtain ⟨z0, z1, z2, z3, z4, z5, z6, z7⟩ := HS5.out.res.cells
              have y0 := HS5.out.res.frozen 0
              have y1 := HS5.out.res.frozen 1
              have y2 := HS5.out.res.frozen 2
              have y3 := HS5.out.res.frozen 3
              have y4 := HS5.out.res.frozen 4
              have y5 := HS5.out.res.frozen 5
              have y6 := HS5.out.res.frozen 6
              have y7 := HS5.out.res.frozen 7
              go_wp2
              show bodyPost _ _ _ _ _ (put8z _ R 0 none 0 0 0 0)
              rw [put8z_eq]
              exact post_node Try.f56 4 rfl rfl rfl (HS5.out.res.put8 _) (fin_bad HX.out hc0 _ _ (newT_zero _ _) (HS5.out.rd.put8 HS5.out.res _) (HS5.out.fr.put8 HRL.out _))
            | ok bb j' =>
              have hjj := item_ge hc
              rw [hc] at h4
              obtain ⟨hj', rfl, hr4, hf4⟩ := h4
              obtain ⟨f2, rfl⟩ : ∃ f2, f' = f2 + 1 := by
                cases f' with
                | zero => exact absurd (by rw [HRE.out, hc]; rfl) HOUT.out
                | succ f2 => exact ⟨f2, rfl⟩
              have HRE2 : Hid (RES = finS s i (goS s i false f2 (Oct.join a bb) j')) := by show _ = _; rw [HRE.out, hc, ← goS_loop]
              have HS4 : Hid (Iq w s b0 B R V d u4 j' x 0 0) := hq.out.read hf4 hr4
              have HS5 : Hid (Iq w s b0 B R V d (put4 u4 V (addS x bb)) j' (mn (Oct.join a bb)) 0 0) := by have h5 := HS4.out.put (addS x bb); rw [← mn_add, ← HXX.out]; exact h5
              clear hc hr4 hf4 HRE
              obtain ⟨a0, a1, a2, a3⟩ := HS4.out.box.cells
              have g0 := HS4.out.box.frozen 0
              have g1 := HS4.out.box.frozen 1
              have g2 := HS4.out.box.frozen 2
              have g3 := HS4.out.box.frozen 3
              obtain ⟨τ, hτ⟩ : ∃ τ, τ = addS x bb := ⟨_, rfl⟩
              rw [← hτ] at HS5 ⊢
              clear hτ
              unfold setV
              go_upto_region 11 with fail
              obtain ⟨u5, hu5⟩ : ∃ u5, u5 = put4 u4 V τ := ⟨_, rfl⟩
              have HU5 : Hid ((((u4.setCell ⟨V, 0, none⟩ (.int .u64 (Oct.word τ 0 : Nat))).setCell ⟨V, 1, none⟩ (.int .u64 (Oct.word τ 1 : Nat))).setCell ⟨V, 2, none⟩ (.int .u64 (Oct.word τ 2 : Nat))).setCell ⟨V, 3, none⟩ (.int .u64 (Oct.word τ 3 : Nat)) = u5) := hu5.symm
              rw [HU5.out]
              rw [← hu5] at HS5
              clear hu5 HU5 a0 a1 a2 a3 g0 g1 g2 g3
              obtain ⟨oo, cc, c0, c1, c2, c3, c4⟩ := HS5.out.rd.cells
              go_wp2
              go_roundw
              case rel => exact ⟨false, f2, Oct.join a bb, j', rfl, hj', HS5, HRE2⟩
              case measure =>
                rw [HMS.out, HS5.out.rd.c1]
                simp [intOf]
                omega
          · rw [decide_eq_false hjl]
            have hje : j = s.size := by omega
            have HX : Hid (RES = .bad i 43) := by show _ = _; rw [HRE.out, show item s i j = .bad i 43 from by unfold item; rw [if_pos hje]]; rfl
            clear HRE hje
            go_wp2_with fail
            refine (rfault_lit b0 B j d 43 i _ rfl s _ hq.out.rd).mono ?_
            rintro e u6 ⟨rfl, hr6, hf6⟩
            have HS6 : Hid (Iq w s b0 B R V d u6 j (mn a) 43 i) := hq.out.read hf6 hr6
            clear hr6 hf6 c0 c1 c2 c3 c4
            unfold zeroNd Nd.val
            obtain ⟨z0, z1, z2, z3, z4, z5, z6, z7⟩ := HS6.out.res.cells
            have y0 := HS6.out.res.frozen 0
            have y1 := HS6.out.res.frozen 1
            have y2 := HS6.out.res.frozen 2
            have y3 := HS6.out.res.frozen 3
            have y4 := HS6.out.res.frozen 4
            have y5 := HS6.out.res.frozen 5
            have y6 := HS6.out.res.frozen 6
            have y7 := HS6.out.res.frozen 7
            go_wp2
            show bodyPost _ _ _ _ _ (put8 _ R zeroNd)
            exact post_node Try.f56 4 rfl rfl rfl (HS6.out.res.put8 zeroNd) (fin_bad HX.out (by decide) zeroNd _ (newT_zero _ _) (HS6.out.rd.put8 HS6.out.res zeroNd) (HS6.out.fr.put8 HRL.out zeroNd))
  | false =>
    have HE : Hid (st = i + 1) := by show _ = _; rw [HST.out, htt]; rfl
    have HTT : Hid (sees s (i + 1) 94 = false) := by show _ = _; rw [← HTU.out, htt]
    have HSTL : Hid (i + 1 ≤ s.size) := by show _ ≤ _; omega
    have HX1 := HN
    have HX2 := HR
    have HX3 := HF
    rw [HE.out] at HRES2
    clear htt HTL HTU HST HE
    go_upto_region 4 with fail
    obtain ⟨v1, hv1⟩ : ∃ v1, v1 = ux := ⟨_, rfl⟩
    rw [← hv1] at HX1 HX2 HX3 ⊢
    obtain ⟨st2, hst2⟩ : ∃ st2, st2 = i + 1 := ⟨_, rfl⟩
    rw [← hst2] at HX2 HRES2 HSTL
    clear hv1 hst2 c0 c1 c2 c3 c4 f1 HN HR HF
    have hal : Below v1.heap.size v1 (v1.alloc (.cells #[.int .u64 0, .int .u64 0, .int .u64 0, .int .u64 0] 25)) := (Below.refl _ _).alloc (Nat.le_refl _) _
    have HS0 : Hid (Iq w s b0 B R v1.heap.size d (v1.alloc (.cells #[.int .u64 0, .int .u64 0, .int .u64 0, .int .u64 0] 25)) st2 (mn Oct.none) 0 0) := ⟨HX1.out.later hal, by rw [mn_none]; exact sb_zero v1, HX2.out.later hal, HX3.out.later hal, HRL.out, by have := HX3.out.size; omega⟩
    go_upto_region 5 with fail
    obtain ⟨v2, hv2⟩ : ∃ v2, v2 = v1.alloc (.cells #[.int .u64 0, .int .u64 0, .int .u64 0, .int .u64 0] 25) := ⟨_, rfl⟩
    obtain ⟨V, hV⟩ : ∃ V, V = v1.heap.size := ⟨_, rfl⟩
    rw [← hv2, ← hV] at HS0 ⊢
    clear hv2 hV hal HX1 HX2 HX3
    go_wp2_with fail
    go_loopw [7] (fun v u => ∃ (p : Bool) (f' : Nat) (a : Oct.S) (j : Nat), v = .bool p ∧ j ≤ s.size ∧ Hid (Iq w s b0 B R V d u j (mn a) 0 0) ∧ Hid (RES = finS s i (goS s i p f' a j))) (fun _ u => 4000 - (intOf ((u.cell? ⟨B, 1, none⟩).getD undef)).toNat)
    case atStart => exact ⟨true, f, Oct.none, st2, rfl, HSTL.out, HS0, HRES2⟩
    case round =>
      clear HS0 HRES2
      obtain ⟨p, f', a, j, rfl, hj, hq, hre⟩ := hrel
      have HMS : Hid (4000 - (intOf ((wr.cell? ⟨B, 1, none⟩).getD undef)).toNat = 4000 - j) := by show _ = _; rw [hq.out.rd.c1]; simp [intOf]
      have hj3 : j ≤ 1024 := by omega
      obtain ⟨oo, cc, c0, c1, c2, c3, c4⟩ := hq.out.rd.cells
      cases p with
      | true =>
        have HRE : Hid (RES = finS s i (match item s i j with
          | .ok b j' => setLoop s i f' (Oct.join a b) j'
          | .bad a e => .bad a e
          | .out => .out)) := by show _ = _; rw [hre.out, goS]; rfl
        clear hre
        go_wp2_with fail
        refine (rmore_any b0 B j d 0 0 j s _ hq.out.rd).mono ?_
        rintro e uz ⟨rfl, hz⟩
        subst hz
        by_cases hjl : j < s.size
        · rw [decide_eq_true hjl]
          obtain ⟨x, hx⟩ : ∃ x, x = mn a := ⟨_, rfl⟩
          rw [← hx] at hq
          have HXX : Hid (x = mn a) := hx
          clear hx
          obtain ⟨a0, a1, a2, a3⟩ := hq.out.box.cells
          clear c0 c1 c2 c3 c4
          go_wp2_with fail
          refine (ritem_walk b0 B i j d x s _ hq.out.rd hjl hs).mono ?_
          intro e u4 h4
          clear a0 a1 a2 a3
          cases hc : item s i j with
          | out => rw [hc] at h4; exact h4.elim
          | bad aa c =>
            rw [hc] at h4
            obtain ⟨hc0, τ, j', d', rfl, hr4, hf4⟩ := h4
            have HX : Hid (RES = .bad aa c) := by show _ = _; rw [HRE.out, hc]; rfl
            have HS4 : Hid (Iq w s b0 B R V d' u4 j' x c aa) := hq.out.read hf4 hr4
            have HS5 : Hid (Iq w s b0 B R V d' (put4 u4 V τ) j' τ c aa) := HS4.out.put τ
            clear hc hr4 hf4 HRE
            obtain ⟨a0, a1, a2, a3⟩ := HS4.out.box.cells
            have g0 := HS4.out.box.frozen 0
            have g1 := HS4.out.box.frozen 1
            have g2 := HS4.out.box.frozen 2
            have g3 := HS4.out.box.frozen 3
            unfold setV
            go_upto_region 11 with fail
            obtain ⟨u5, hu5⟩ : ∃ u5, u5 = put4 u4 V τ := ⟨_, rfl⟩
            have HU5 : Hid ((((u4.setCell ⟨V, 0, none⟩ (.int .u64 (Oct.word τ 0 : Nat))).setCell ⟨V, 1, none⟩ (.int .u64 (Oct.word τ 1 : Nat))).setCell ⟨V, 2, none⟩ (.int .u64 (Oct.word τ 2 : Nat))).setCell ⟨V, 3, none⟩ (.int .u64 (Oct.word τ 3 : Nat)) = u5) := hu5.symm
            rw [HU5.out]
            rw [← hu5] at HS5
            clear hu5 HU5 a0 a1 a2 a3 g0 g1 g2 g3
            obtain ⟨oo, cc, c0, c1, c2, c3, c4⟩ := HS5.out.rd.cells
            have q0 : ((c : Int) == 0) = false := by simp <;> omega
            have q1 : ((c : Int) != 0) = true := by simp <;> omega
            obtain ⟨z0, z1, z2, z3, z4, z5, z6, z7⟩ := HS5.out.res.cells
            have y0 := HS5.out.res.frozen 0
            have y1 := HS5.out.res.frozen 1
            have y2 := HS5.out.res.frozen 2
            have y3 := HS5.out.res.frozen 3
            have y4 := HS5.out.res.frozen 4
            have y5 := HS5.out.res.frozen 5
            have y6 := HS5.out.res.frozen 6
            have y7 := HS5.out.res.frozen 7
            go_wp2
            show bodyPost _ _ _ _ _ (put8z _ R 0 none 0 0 0 0)
            rw [put8z_eq]
            exact post_node Try.f56 4 rfl rfl rfl (HS5.out.res.put8 _) (fin_bad HX.out hc0 _ _ (newT_zero _ _) (HS5.out.rd.put8 HS5.out.res _) (HS5.out.fr.put8 HRL.out _))
          | ok bb j' =>
            have hjj := item_ge hc
            rw [hc] at h4
            obtain ⟨hj', rfl, hr4, hf4⟩ := h4
            obtain ⟨f2, rfl⟩ : ∃ f2, f' = f2 + 1 := by
              cases f' with
              | zero => exact absurd (by rw [HRE.out, hc]; rfl) HOUT.out
              | succ f2 => exact ⟨f2, rfl⟩
            have HRE2 : Hid (RES = finS s i (goS s i false f2 (Oct.join a bb) j')) := by show _ = _; rw [HRE.out, hc, ← goS_loop]
            have HS4 : Hid (Iq w s b0 B R V d u4 j' x 0 0) := hq.out.read hf4 hr4
            have HS5 : Hid (Iq w s b0 B R V d (put4 u4 V (addS x bb)) j' (mn (Oct.join a bb)) 0 0) := by have h5 := HS4.out.put (addS x bb); rw [← mn_add, ← HXX.out]; exact h5
            clear hc hr4 hf4 HRE
            obtain ⟨a0, a1, a2, a3⟩ := HS4.out.box.cells
            have g0 := HS4.out.box.frozen 0
            have g1 := HS4.out.box.frozen 1
            have g2 := HS4.out.box.frozen 2
            have g3 := HS4.out.box.frozen 3
            obtain ⟨τ, hτ⟩ : ∃ τ, τ = addS x bb := ⟨_, rfl⟩
            rw [← hτ] at HS5 ⊢
            clear hτ
            unfold setV
            go_upto_region 11 with fail
            obtain ⟨u5, hu5⟩ : ∃ u5, u5 = put4 u4 V τ := ⟨_, rfl⟩
            have HU5 : Hid ((((u4.setCell ⟨V, 0, none⟩ (.int .u64 (Oct.word τ 0 : Nat))).setCell ⟨V, 1, none⟩ (.int .u64 (Oct.word τ 1 : Nat))).setCell ⟨V, 2, none⟩ (.int .u64 (Oct.word τ 2 : Nat))).setCell ⟨V, 3, none⟩ (.int .u64 (Oct.word τ 3 : Nat)) = u5) := hu5.symm
            rw [HU5.out]
            rw [← hu5] at HS5
            clear hu5 HU5 a0 a1 a2 a3 g0 g1 g2 g3
            obtain ⟨oo, cc, c0, c1, c2, c3, c4⟩ := HS5.out.rd.cells
            go_wp2
            go_roundw
            case rel => exact ⟨false, f2, Oct.join a bb, j', rfl, hj', HS5, HRE2⟩
            case measure =>
              rw [HMS.out, HS5.out.rd.c1]
              simp [intOf]
              omega
        · rw [decide_eq_false hjl]
          have hje : j = s.size := by omega
          have HX : Hid (RES = .bad i 43) := by show _ = _; rw [HRE.out, show item s i j = .bad i 43 from by unfold item; rw [if_pos hje]]; rfl
          clear HRE hje
          go_wp2_with fail
          refine (rfault_lit b0 B j d 43 i _ rfl s _ hq.out.rd).mono ?_
          rintro e u6 ⟨rfl, hr6, hf6⟩
          have HS6 : Hid (Iq w s b0 B R V d u6 j (mn a) 43 i) := hq.out.read hf6 hr6
          clear hr6 hf6 c0 c1 c2 c3 c4
          unfold zeroNd Nd.val
          obtain ⟨z0, z1, z2, z3, z4, z5, z6, z7⟩ := HS6.out.res.cells
          have y0 := HS6.out.res.frozen 0
          have y1 := HS6.out.res.frozen 1
          have y2 := HS6.out.res.frozen 2
          have y3 := HS6.out.res.frozen 3
          have y4 := HS6.out.res.frozen 4
          have y5 := HS6.out.res.frozen 5
          have y6 := HS6.out.res.frozen 6
          have y7 := HS6.out.res.frozen 7
          go_wp2
          show bodyPost _ _ _ _ _ (put8 _ R zeroNd)
          exact post_node Try.f56 4 rfl rfl rfl (HS6.out.res.put8 zeroNd) (fin_bad HX.out (by decide) zeroNd _ (newT_zero _ _) (HS6.out.rd.put8 HS6.out.res zeroNd) (HS6.out.fr.put8 HRL.out zeroNd))
      | false =>
        go_wp2_with fail
        refine (ris_any b0 B j d 0 0 j 93 s _ hq.out.rd).mono ?_
        rintro e uy ⟨rfl, hz⟩
        subst hz
        cases h93 : sees s j 93 with
        | true =>
          have HX : Hid (RES = .ok (setT (mn a)) (j + 1)) := by show _ = _; rw [hre.out, goS, h93]; show finS s i (.ok a (j + 1)) = _; unfold finS; simp only; rw [HTT.out]; rw [mn_meet]; rfl
          have hjl := seesl h93
          clear hre h93
          have f1 := hq.out.rd.frozen 1
          have HS1 : Hid (Iq w s b0 B R V d (uy.setCell ⟨B, 1, none⟩ (.int .i64 ((j : Int) + 1))) (j + 1) (mn a) 0 0) := hq.out.at (j + 1)
          go_upto_region 14 with fail
          obtain ⟨u1, hu1⟩ : ∃ u1, u1 = uy.setCell ⟨B, 1, none⟩ (.int .i64 ((j : Int) + 1)) := ⟨_, rfl⟩
          rw [← hu1] at HS1 ⊢
          clear hu1 c0 c1 c2 c3 c4 f1
          obtain ⟨x, hx⟩ : ∃ x, x = mn a := ⟨_, rfl⟩
          rw [← hx] at HS1 HX
          clear hx
          obtain ⟨a0, a1, a2, a3⟩ := HS1.out.box.cells
          have HS2 := HS1
          obtain ⟨y, hy⟩ : ∃ y, y = x := ⟨_, rfl⟩
          rw [← hy] at HX a0 a1 a2 a3
          obtain ⟨u2, hu2⟩ : ∃ u2, u2 = u1 := ⟨_, rfl⟩
          rw [← hu2] at HS2 a0 a1 a2 a3 ⊢
          clear hy hu2
          go_wp2_with fail
          refine (rset_any y _).mono ?_
          rintro e u3 ⟨rfl, hb3⟩
          have HS3 : Hid (Iq w s b0 B R V d u3 (j + 1) x 0 0) := HS2.out.later hb3
          clear hb3
          unfold Nd.val
          obtain ⟨z0, z1, z2, z3, z4, z5, z6, z7⟩ := HS3.out.res.cells
          have y0 := HS3.out.res.frozen 0
          have y1 := HS3.out.res.frozen 1
          have y2 := HS3.out.res.frozen 2
          have y3 := HS3.out.res.frozen 3
          have y4 := HS3.out.res.frozen 4
          have y5 := HS3.out.res.frozen 5
          have y6 := HS3.out.res.frozen 6
          have y7 := HS3.out.res.frozen 7
          go_wp2
          show bodyPost _ _ _ _ _ (put8 _ R ⟨(2 : Nat), y, none, 0, 0, 0, 0⟩)
          exact post_node Try.f56 4 rfl rfl rfl (HS3.out.res.put8 ⟨(2 : Nat), y, none, 0, 0, 0, 0⟩) (HS3.out.end_ y HX.out (by omega))
        | false =>
          have HRE : Hid (RES = finS s i (match item s i j with
            | .ok b j' => setLoop s i f' (Oct.join a b) j'
            | .bad a e => .bad a e
            | .out => .out)) := by show _ = _; rw [hre.out, goS, h93]; rfl
          clear hre h93
          go_wp2_with fail
          refine (rmore_any b0 B j d 0 0 j s _ hq.out.rd).mono ?_
          rintro e uz ⟨rfl, hz⟩
          subst hz
          by_cases hjl : j < s.size
          · rw [decide_eq_true hjl]
            obtain ⟨x, hx⟩ : ∃ x, x = mn a := ⟨_, rfl⟩
            rw [← hx] at hq
            have HXX : Hid (x = mn a) := hx
            clear hx
            obtain ⟨a0, a1, a2, a3⟩ := hq.out.box.cells
            clear c0 c1 c2 c3 c4
            go_wp2_with fail
            refine (ritem_walk b0 B i j d x s _ hq.out.rd hjl hs).mono ?_
            intro e u4 h4
            clear a0 a1 a2 a3
            cases hc : item s i j with
            | out => rw [hc] at h4; exact h4.elim
            | bad aa c =>
              rw [hc] at h4
              obtain ⟨hc0, τ, j', d', rfl, hr4, hf4⟩ := h4
              have HX : Hid (RES = .bad aa c) := by show _ = _; rw [HRE.out, hc]; rfl
              have HS4 : Hid (Iq w s b0 B R V d' u4 j' x c aa) := hq.out.read hf4 hr4
              have HS5 : Hid (Iq w s b0 B R V d' (put4 u4 V τ) j' τ c aa) := HS4.out.put τ
              clear hc hr4 hf4 HRE
              obtain ⟨a0, a1, a2, a3⟩ := HS4.out.box.cells
              have g0 := HS4.out.box.frozen 0
              have g1 := HS4.out.box.frozen 1
              have g2 := HS4.out.box.frozen 2
              have g3 := HS4.out.box.frozen 3
              unfold setV
              go_upto_region 11 with fail
              obtain ⟨u5, hu5⟩ : ∃ u5, u5 = put4 u4 V τ := ⟨_, rfl⟩
              have HU5 : Hid ((((u4.setCell ⟨V, 0, none⟩ (.int .u64 (Oct.word τ 0 : Nat))).setCell ⟨V, 1, none⟩ (.int .u64 (Oct.word τ 1 : Nat))).setCell ⟨V, 2, none⟩ (.int .u64 (Oct.word τ 2 : Nat))).setCell ⟨V, 3, none⟩ (.int .u64 (Oct.word τ 3 : Nat)) = u5) := hu5.symm
              rw [HU5.out]
              rw [← hu5] at HS5
              clear hu5 HU5 a0 a1 a2 a3 g0 g1 g2 g3
              obtain ⟨oo, cc, c0, c1, c2, c3, c4⟩ := HS5.out.rd.cells
              have q0 : ((c : Int) == 0) = false := by simp <;> omega
              have q1 : ((c : Int) != 0) = true := by simp <;> omega
              obtain ⟨z0, z1, z2, z3, z4, z5, z6, z7⟩ := HS5.out.res.cells
              have y0 := HS5.out.res.frozen 0
              have y1 := HS5.out.res.frozen 1
              have y2 := HS5.out.res.frozen 2
              have y3 := HS5.out.res.frozen 3
              have y4 := HS5.out.res.frozen 4
              have y5 := HS5.out.res.frozen 5
              have y6 := HS5.out.res.frozen 6
              have y7 := HS5.out.res.frozen 7
              go_wp2
              show bodyPost _ _ _ _ _ (put8z _ R 0 none 0 0 0 0)
              rw [put8z_eq]
              exact post_node Try.f56 4 rfl rfl rfl (HS5.out.res.put8 _) (fin_bad HX.out hc0 _ _ (newT_zero _ _) (HS5.out.rd.put8 HS5.out.res _) (HS5.out.fr.put8 HRL.out _))
            | ok bb j' =>
              have hjj := item_ge hc
              rw [hc] at h4
              obtain ⟨hj', rfl, hr4, hf4⟩ := h4
              obtain ⟨f2, rfl⟩ : ∃ f2, f' = f2 + 1 := by
                cases f' with
                | zero => exact absurd (by rw [HRE.out, hc]; rfl) HOUT.out
                | succ f2 => exact ⟨f2, rfl⟩
              have HRE2 : Hid (RES = finS s i (goS s i false f2 (Oct.join a bb) j')) := by show _ = _; rw [HRE.out, hc, ← goS_loop]
              have HS4 : Hid (Iq w s b0 B R V d u4 j' x 0 0) := hq.out.read hf4 hr4
              have HS5 : Hid (Iq w s b0 B R V d (put4 u4 V (addS x bb)) j' (mn (Oct.join a bb)) 0 0) := by have h5 := HS4.out.put (addS x bb); rw [← mn_add, ← HXX.out]; exact h5
              clear hc hr4 hf4 HRE
              obtain ⟨a0, a1, a2, a3⟩ := HS4.out.box.cells
              have g0 := HS4.out.box.frozen 0
              have g1 := HS4.out.box.frozen 1
              have g2 := HS4.out.box.frozen 2
              have g3 := HS4.out.box.frozen 3
              obtain ⟨τ, hτ⟩ : ∃ τ, τ = addS x bb := ⟨_, rfl⟩
              rw [← hτ] at HS5 ⊢
              clear hτ
              unfold setV
              go_upto_region 11 with fail
              obtain ⟨u5, hu5⟩ : ∃ u5, u5 = put4 u4 V τ := ⟨_, rfl⟩
              have HU5 : Hid ((((u4.setCell ⟨V, 0, none⟩ (.int .u64 (Oct.word τ 0 : Nat))).setCell ⟨V, 1, none⟩ (.int .u64 (Oct.word τ 1 : Nat))).setCell ⟨V, 2, none⟩ (.int .u64 (Oct.word τ 2 : Nat))).setCell ⟨V, 3, none⟩ (.int .u64 (Oct.word τ 3 : Nat)) = u5) := hu5.symm
              rw [HU5.out]
              rw [← hu5] at HS5
              clear hu5 HU5 a0 a1 a2 a3 g0 g1 g2 g3
              obtain ⟨oo, cc, c0, c1, c2, c3, c4⟩ := HS5.out.rd.cells
              go_wp2
              go_roundw
              case rel => exact ⟨false, f2, Oct.join a bb, j', rfl, hj', HS5, HRE2⟩
              case measure =>
                rw [HMS.out, HS5.out.rd.c1]
                simp [intOf]
                omega
          · rw [decide_eq_false hjl]
            have hje : j = s.size := by omega
            have HX : Hid (RES = .bad i 43) := by show _ = _; rw [HRE.out, show item s i j = .bad i 43 from by unfold item; rw [if_pos hje]]; rfl
            clear HRE hje
            go_wp2_with fail
            refine (rfault_lit b0 B j d 43 i _ rfl s _ hq.out.rd).mono ?_
            rintro e u6 ⟨rfl, hr6, hf6⟩
            have HS6 : Hid (Iq w s b0 B R V d u6 j (mn a) 43 i) := hq.out.read hf6 hr6
            clear hr6 hf6 c0 c1 c2 c3 c4
            unfold zeroNd Nd.val
            obtain ⟨z0, z1, z2, z3, z4, z5, z6, z7⟩ := HS6.out.res.cells
            have y0 := HS6.out.res.frozen 0
            have y1 := HS6.out.res.frozen 1
            have y2 := HS6.out.res.frozen 2
            have y3 := HS6.out.res.frozen 3
            have y4 := HS6.out.res.frozen 4
            have y5 := HS6.out.res.frozen 5
            have y6 := HS6.out.res.frozen 6
            have y7 := HS6.out.res.frozen 7
            go_wp2
            show bodyPost _ _ _ _ _ (put8 _ R zeroNd)
            exact post_node Try.f56 4 rfl rfl rfl (HS6.out.res.put8 zeroNd) (fin_bad HX.out (by decide) zeroNd _ (newT_zero _ _) (HS6.out.rd.put8 HS6.out.res zeroNd) (HS6.out.fr.put8 HRL.out zeroNd))
end Go.Proofs.Ytlcnmfgmgiijpaa
