/- ere's piece. -/
import Derived.Test.YtjmbimgofceanaaG16
import Derived.Test.YtjmbimgofceanaaG10
namespace Go.Proofs.Ytjmbimgofceanaa
open Go.RowKit
attribute [local go_sem ↓] Go.wp_at_zero Go.wp_at_succ

set_option maxRecDepth 4000 in
set_option maxHeartbeats 4000000 in
theorem piece_walk (n : Nat) (H : ∀ m, m < n → AtomOK m) : PieceOK n := by
  intro B i d s w pre hlt hout
  obtain ⟨k, rfl⟩ : ∃ k, n = k + 1 := by
    cases n with
    | zero => exact absurd (by simp [piece]) hout
    | succ k => exact ⟨k, rfl⟩
  have HO : Hid (piece s (k + 1) d i ≠ .out) := hout
  have HP : Hid (∀ m, m < k + 1 → AtomOK m) := H
  have HPC : Hid (piece s (k + 1) d i = if byt s i = 94 then .ok (.mk 6 Oct.none [] 0 0) (i + 1)
    else if byt s i = 36 then .ok (.mk 7 Oct.none [] 0 0) (i + 1)
    else match atom s k d i with
      | .ok t j => repeated s t j
      | .bad a e => .bad a e
      | .out => .out) := by show _ = _; rw [piece]; rfl
  have hi := pre.hi
  have hs := pre.hs
  have hd := pre.hd
  have HB0 : Hid (B ≠ 0) := pre.hB0
  have HBW : Hid (B < w.heap.size) := pre.rd.lt
  have hal : Below w.heap.size w (w.alloc (.cells #[.int .i64 0, .int .u64 0, .int .u64 0, .int .u64 0, .int .u64 0, .slice none 0 0, .int .i64 0, .int .i64 0] 30)) := (Below.refl _ _).alloc (Nat.le_refl _) _
  have HN1 : Hid (NB (w.alloc (.cells #[.int .i64 0, .int .u64 0, .int .u64 0, .int .u64 0, .int .u64 0, .slice none 0 0, .int .i64 0, .int .i64 0] 30)) w.heap.size zeroNd) := nb_zero w
  have HR1 : Hid (RB (w.alloc (.cells #[.int .i64 0, .int .u64 0, .int .u64 0, .int .u64 0, .int .u64 0, .slice none 0 0, .int .i64 0, .int .i64 0] 30)) B s i d) := pre.rd.later hal
  have HM1 : Hid (GM (w.alloc (.cells #[.int .i64 0, .int .u64 0, .int .u64 0, .int .u64 0, .int .u64 0, .slice none 0 0, .int .i64 0, .int .i64 0] 30))) := pre.gm.later hal
  have HG1 : Hid (w.grownBy (w.alloc (.cells #[.int .i64 0, .int .u64 0, .int .u64 0, .int .u64 0, .int .u64 0, .slice none 0 0, .int .i64 0, .int .i64 0] 30)) (some B)) := grown_below (grown_refl _ _) hal
  obtain ⟨w1, hw1⟩ : ∃ w1, w1 = w.alloc (.cells #[.int .i64 0, .int .u64 0, .int .u64 0, .int .u64 0, .int .u64 0, .slice none 0 0, .int .i64 0, .int .i64 0] 30) := ⟨_, rfl⟩
  obtain ⟨R, hR⟩ : ∃ R, R = w.heap.size := ⟨_, rfl⟩
  rw [← hw1, ← hR] at HN1
  rw [← hw1] at HR1 HM1 HG1
  have HW1 : Hid (w1 = _) := hw1
  have HRR : Hid (R = _) := hR
  have HRB : Hid (R ≠ B) := by have := HBW.out; show _ ≠ _; omega
  clear hw1 hR hal pre hout H
  obtain ⟨c0, c1, c2⟩ := HR1.out.cells
  have hi3 : i ≤ 1024 := by omega
  have hlt' : (i : Int) < (s.size : Int) := by omega
  go_enter Try.func81, Try.ntmps81
  go_upto_region 1 with fail
  rw [← HW1.out, ← HRR.out]
  clear HW1
  go_quiet (fail)
  have HR2 : Hid (RB (w1.drewN nq) B s i d) := HR1.out.later (below_drewN _ _ _)
  have HN2 : Hid (NB (w1.drewN nq) R zeroNd) := HN1.out.later (below_drewN _ _ _)
  have HM2 : Hid (GM (w1.drewN nq)) := HM1.out.later (below_drewN _ _ _)
  have HG2 : Hid (w.grownBy (w1.drewN nq) (some B)) := grown_below HG1.out (below_drewN _ _ _)
  obtain ⟨w2, hw2⟩ : ∃ w2, w2 = w1.drewN nq := ⟨_, rfl⟩
  rw [← hw2] at HR2 HN2 HG2 HM2
  have HW2 : Hid (w2 = _) := hw2
  clear hw2 c0 c1 c2 HR1 HN1 HG1 HM1
  go_upto_region 2 with fail
  rw [← HW2.out]
  clear HW2
  obtain ⟨c0, c1, c2⟩ := HR2.out.cells
  by_cases h94 : s[i].toNat = 94
  · have g1 : ((s[i].toNat : Int) == 94) = true := by simp; omega
    have HX : Hid (piece s (k + 1) d i = .ok (.mk 6 Oct.none [] 0 0) (i + 1)) := by show _ = _; rw [HPC.out]; simp [byt_eq hlt, h94]
    clear h94
    have HR3 : Hid (RB (w2.setCell ⟨B, 1, none⟩ (.int .i64 ((i : Int) + 1))) B s (i + 1) d) := HR2.out.at (i + 1)
    have HG3 : Hid (w.grownBy (w2.setCell ⟨B, 1, none⟩ (.int .i64 ((i : Int) + 1))) (some B)) := grown_trans HG2.out (grown_set _ _ _ _)
    have HN3 : Hid (NB (w2.setCell ⟨B, 1, none⟩ (.int .i64 ((i : Int) + 1))) R zeroNd) := HN2.out.set HRB.out _ _
    have f1 := HR2.out.frozen 1
    go_upto_region 4 with fail
    obtain ⟨w3, hw3⟩ : ∃ w3, w3 = w2.setCell ⟨B, 1, none⟩ (.int .i64 ((i : Int) + 1)) := ⟨_, rfl⟩
    rw [← hw3] at HR3 HG3 HN3 ⊢
    clear hw3 c0 c1 c2 f1
    obtain ⟨z0, z1, z2, z3, z4, z5, z6, z7⟩ := HN3.out.cells
    have y0 := HN3.out.frozen 0
    have y1 := HN3.out.frozen 1
    have y2 := HN3.out.frozen 2
    have y3 := HN3.out.frozen 3
    have y4 := HN3.out.frozen 4
    have y5 := HN3.out.frozen 5
    have y6 := HN3.out.frozen 6
    have y7 := HN3.out.frozen 7
    go_wp2
    show bodyPost _ _ _ _ _ (put8z _ R 6 none 0 0 0 0)
    rw [put8z_eq]
    refine post_node Try.f81 2 rfl rfl rfl (HN3.out.put8 _) ?_
    unfold Reads
    rw [HX.out]
    exact ⟨by omega, _, rfl, ⟨_, rfl, NodeAt.leaf _ _ 6 Oct.none 0 0 none 0⟩, put8_rb HR3.out HRB.out _, put8_grown HG3.out (by rw [HRR.out]; exact Nat.le_refl _) _⟩
  · have g1 : ((s[i].toNat : Int) == 94) = false := by simp; omega
    by_cases h36 : s[i].toNat = 36
    · have g2 : ((s[i].toNat : Int) == 36) = true := by simp; omega
      have HX : Hid (piece s (k + 1) d i = .ok (.mk 7 Oct.none [] 0 0) (i + 1)) := by show _ = _; rw [HPC.out]; simp [byt_eq hlt, h36]
      clear h94 h36
      have HR3 : Hid (RB (w2.setCell ⟨B, 1, none⟩ (.int .i64 ((i : Int) + 1))) B s (i + 1) d) := HR2.out.at (i + 1)
      have HG3 : Hid (w.grownBy (w2.setCell ⟨B, 1, none⟩ (.int .i64 ((i : Int) + 1))) (some B)) := grown_trans HG2.out (grown_set _ _ _ _)
      have HN3 : Hid (NB (w2.setCell ⟨B, 1, none⟩ (.int .i64 ((i : Int) + 1))) R zeroNd) := HN2.out.set HRB.out _ _
      have f1 := HR2.out.frozen 1
      go_upto_region 7 with fail
      obtain ⟨w3, hw3⟩ : ∃ w3, w3 = w2.setCell ⟨B, 1, none⟩ (.int .i64 ((i : Int) + 1)) := ⟨_, rfl⟩
      rw [← hw3] at HR3 HG3 HN3 ⊢
      clear hw3 c0 c1 c2 f1
      obtain ⟨z0, z1, z2, z3, z4, z5, z6, z7⟩ := HN3.out.cells
      have y0 := HN3.out.frozen 0
      have y1 := HN3.out.frozen 1
      have y2 := HN3.out.frozen 2
      have y3 := HN3.out.frozen 3
      have y4 := HN3.out.frozen 4
      have y5 := HN3.out.frozen 5
      have y6 := HN3.out.frozen 6
      have y7 := HN3.out.frozen 7
      go_wp2
      show bodyPost _ _ _ _ _ (put8z _ R 7 none 0 0 0 0)
      rw [put8z_eq]
      refine post_node Try.f81 2 rfl rfl rfl (HN3.out.put8 _) ?_
      unfold Reads
      rw [HX.out]
      exact ⟨by omega, _, rfl, ⟨_, rfl, NodeAt.leaf _ _ 7 Oct.none 0 0 none 0⟩, put8_rb HR3.out HRB.out _, put8_grown HG3.out (by rw [HRR.out]; exact Nat.le_refl _) _⟩
    · have g2 : ((s[i].toNat : Int) == 36) = false := by simp; omega
      have HX : Hid (piece s (k + 1) d i = match atom s k d i with
        | .ok t j => repeated s t j
        | .bad a e => .bad a e
        | .out => .out) := by show _ = _; rw [HPC.out]; simp [byt_eq hlt, h94, h36]
      clear h94 h36 c0 c1 c2
      have hpo : atom s k d i ≠ .out := fun e => HO.out (by rw [HX.out, e])
      go_wp2_with fail
      refine (HP.out k (by omega) B i d s w2 ⟨HR2.out, by omega, hs, HM2.out, HB0.out, hd⟩ hlt hpo).mono ?_
      intro e w3 h3
      clear hpo
      cases hc : atom s k d i with
      | out => rw [hc] at h3; exact h3.elim
      | bad a c =>
        rw [hc] at h3 HX
        obtain ⟨rfl, hg3⟩ := h3
        have HG3 : Hid (w.grownBy w3 (some B)) := grown_trans HG2.out hg3
        clear hc hg3
        go_wp2
        refine ⟨rfl, ?_⟩
        unfold Reads
        rw [HX.out]
        exact ⟨rfl, HG3.out⟩
      | ok t j =>
        rw [hc] at h3 HX
        obtain ⟨hj, v, rfl, ⟨x, rfl, hx⟩, hr3, hg3⟩ := h3
        have HN3 : Hid (NB w3 R zeroNd) := HN2.out.grown hg3 (by have := HRB.out; simp; exact this)
        have HG3 : Hid (w.grownBy w3 (some B)) := grown_trans HG2.out hg3
        have hz2 : w.heap.size + 1 ≤ w2.heap.size := by have := HN2.out.lt; have := HRR.out; omega
        have HX3 : Hid (NodeAt (fun b => w.heap.size + 1 ≤ b) w3 t x) := hx.keep (fun b hb _ => by omega) (fun _ _ _ => rfl)
        have HR3 : Hid (RB w3 B s j d) := hr3
        have HZ3 : Hid (w.heap.size + 1 ≤ w3.heap.size) := by have := HN3.out.lt; have := HRR.out; show _ ≤ _; omega
        clear hc hg3 hr3 hx hz2
        go_wp2_with fail
        refine (repeated_walk B j d (w.heap.size + 1) s t x w3 HR3.out hj hs HX3.out (by have := HBW.out; omega) HZ3.out).mono ?_
        intro e w4 h4
        cases hc : repeated s t j with
        | out => rw [hc] at h4; exact h4.elim
        | bad a c =>
          rw [hc] at h4 HX
          obtain ⟨rfl, hg4⟩ := h4
          have HG4 : Hid (w.grownBy w4 (some B)) := grown_trans HG3.out hg4
          clear hc hg4
          go_wp2
          refine ⟨rfl, ?_⟩
          unfold Reads
          rw [HX.out]
          exact ⟨rfl, HG4.out⟩
        | ok t2 j2 =>
          rw [hc] at h4 HX
          obtain ⟨hj2, v, rfl, ⟨y, rfl, hy⟩, hr4, hg4⟩ := h4
          have HN4 : Hid (NB w4 R zeroNd) := HN3.out.grown hg4 (by have := HRB.out; simp; exact this)
          have HG4 : Hid (w.grownBy w4 (some B)) := grown_trans HG3.out hg4
          have HY4 : Hid (NodeAt (fun b => w.heap.size + 1 ≤ b) w4 t2 y) := hy
          have HR4 : Hid (RB w4 B s j2 d) := hr4
          clear hc hg4 hr4 hy HN3 HG3 HX3 HR3 HZ3
          obtain ⟨z0, z1, z2, z3, z4, z5, z6, z7⟩ := HN4.out.cells
          have y0 := HN4.out.frozen 0
          have y1 := HN4.out.frozen 1
          have y2 := HN4.out.frozen 2
          have y3 := HN4.out.frozen 3
          have y4 := HN4.out.frozen 4
          have y5 := HN4.out.frozen 5
          have y6 := HN4.out.frozen 6
          have y7 := HN4.out.frozen 7
          unfold Nd.val
          go_wp2
          refine post_node Try.f81 2 rfl rfl rfl (HN4.out.put8 y) ?_
          unfold Reads
          rw [HX.out]
          have hRR := HRR.out
          exact ⟨hj2, _, rfl, ⟨_, rfl, HY4.out.keep (fun b hb _ => by omega) (fun b hb _ => heap_put8 _ R _ b (by omega))⟩, put8_rb HR4.out HRB.out _, put8_grown HG4.out (by omega) _⟩
end Go.Proofs.Ytjmbimgofceanaa

/- A drawn region whose last operation waits for all others: each of the others shown once; the last turns the memory. -/
namespace Go.Proofs.Ytjmbimgofceanaa
open Go Go.RowKit

section
variable {P : Program} {ops : Array Oper} {Q : Exit → Act → World → Prop}
/-- each operation ahead of n is waited for by a later one -/
def covers (ops : Array Oper) (n : Nat) : Bool := (List.range n).all fun i => (List.range (n + 1)).any fun j => decide (i < j) && match ops[j]? with
  | some o => o.after.any fun e => e.on == i && Region.binds .any e
  | none => false
theorem covers_all {n : Nat} (h : covers ops n = true) {L : Nat → Bool} (hc : ∀ i o e, ops[i]? = some o → e ∈ o.after → Region.binds .any e = true → L i = true → L e.on = true) (hn : L n = true) : ∀ i, i ≤ n → L i = true := by
  suffices hs : ∀ k i, i ≤ n → n - i ≤ k → L i = true from fun i hi => hs (n - i) i hi (Nat.le_refl _)
  intro k
  induction k with
  | zero => intro i hi hk; rw [show i = n by omega]; exact hn
  | succ k ih =>
    intro i hi hk
    by_cases e : i = n
    · rw [e]; exact hn
    · have h1 := List.all_eq_true.1 h i (List.mem_range.2 (by omega))
      obtain ⟨j, hj, h2⟩ := List.any_eq_true.1 h1
      have hj := List.mem_range.1 hj
      rw [Bool.and_eq_true] at h2
      have hij := of_decide_eq_true h2.1
      have h3 := h2.2
      cases ho : ops[j]? with
      | none => rw [ho] at h3; cases h3
      | some o =>
        rw [ho] at h3
        have h3 : (o.after.any fun e => e.on == i && Region.binds .any e) = true := h3
        rw [Array.any_eq_true'] at h3
        obtain ⟨x, hx, h4⟩ := h3
        rw [Bool.and_eq_true] at h4
        have := hc j o x ho hx h4.2 (ih j (by omega) (by omega))
        rwa [eq_of_beq h4.1] at this
theorem wp_region_last {id : Nat} {a : Act} {w0 : World} (hm : P.follows .mixedOrders = true) (n : Nat) (hn : ops.size = n + 1) (D : Nat → Nat) (R : Nat → Value → World → Prop) (F0 : Act → Prop)
    (hup : ∀ i v w w', R i v w → Below w.heap.size w w' → R i v w')
    (hF0 : ∀ a i v, i < n → F0 a → F0 (a.put (some (D i)) v)) (hsz : ∀ a i, i < n → F0 a → D i < a.tmps.size)
    (hinj : ∀ i j, i < n → j < n → D i = D j → i = j)
    (hcov : covers ops n = true)
    (hduty : AllFrom (fun i o => (i < n → o.guard = none ∧ Duty P ops w0 D R F0 i o) ∧ (n ≤ i → o.guard = none ∧ (∀ e ∈ o.after, e.on < n) ∧ ∀ a w, F0 a → Below w0.heap.size w0 w → (∀ i, i < n → R i (T a (D i)) w) → o.wp P a w (Q .normal) Q)) 0 ops.toList)
    (h0 : F0 a) : (Code.region id ops true).wp P Q a w0 := by
  have hd : ∀ i o, ops[i]? = some o → i < n → o.guard = none ∧ Duty P ops w0 D R F0 i o := fun i o ho hi => by
    have := allFrom_at hduty i o (by simpa using ho)
    rw [Nat.zero_add] at this
    exact this.1 hi
  have hlast : ∀ o, ops[n]? = some o → o.guard = none ∧ (∀ e ∈ o.after, e.on < n) ∧ ∀ a w, F0 a → Below w0.heap.size w0 w → (∀ i, i < n → R i (T a (D i)) w) → o.wp P a w (Q .normal) Q := fun o ho => by
    have := allFrom_at hduty n o (by simpa using ho)
    rw [Nat.zero_add] at this
    exact this.2 (Nat.le_refl _)
  refine wp_region_inv hm (fun L a w => (∀ i o e, ops[i]? = some o → e ∈ o.after → Region.binds .any e = true → L i = true → L e.on = true) ∧ (L n = true → Q .normal a w) ∧ (L n = false → F0 a ∧ Below w0.heap.size w0 w ∧ ∀ i, i < n → L i = true → R i (T a (D i)) w)) ?wf ?step ?fin ?zero
  case wf =>
    intro i o e ho he _
    have hi := (Array.getElem?_eq_some_iff.1 ho).1
    by_cases hl : i < n
    · exact (hd i o ho hl).2.2.1 e he
    · have : i = n := by omega
      subst this
      exact (hlast o ho).2.1 e he
  case zero =>
    intro L hL
    refine ⟨fun i o e ho _ _ h => ?_, fun h => ?_, fun _ => ⟨h0, (Below.refl _ _).drew, fun i hi h => ?_⟩⟩
    · rw [hL i (Array.getElem?_eq_some_iff.1 ho).1] at h; cases h
    · rw [hL n (by omega)] at h; cases h
    · rw [hL i (by omega)] at h; cases h
  case fin =>
    intro L a w hL hI
    exact hI.2.1 (hL n (by omega))
  case step =>
    intro i o ho
    have hi := (Array.getElem?_eq_some_iff.1 ho).1
    have hclose : ∀ L : Nat → Bool, (∀ i o e, ops[i]? = some o → e ∈ o.after → Region.binds .any e = true → L i = true → L e.on = true) → (∀ e ∈ o.after, Region.binds .any e = true → L e.on = true) → ∀ j p e, ops[j]? = some p → e ∈ p.after → Region.binds .any e = true → more L i j = true → more L i e.on = true := fun L h1 h2 j p e hp he hb hj => by
      unfold more at hj ⊢
      by_cases hji : j = i
      · subst hji
        rw [ho] at hp
        cases hp
        simp [h2 e he hb]
      · rw [if_neg hji] at hj
        simp [h1 j p e hp he hb hj]
    by_cases hl : i < n
    · obtain ⟨hg, hdst, hlt, hst⟩ := hd i o ho hl
      refine ⟨hg, fun L a w hI hLi hE => ?_⟩
      have hLn : L n = false := by
        cases h : L n with
        | false => rfl
        | true => rw [covers_all hcov hI.1 h i (by omega)] at hLi; cases hLi
      obtain ⟨hF, hB, hR⟩ := hI.2.2 hLn
      have hw := (hst a w hF hB (fun e he hb => hR e.on (Nat.lt_trans (hlt e he) hl) (hE e he hb))).1 (wanted_free hg) Q
      refine Oper.wp_mono ?_ hw
      rintro a' w' ⟨v, rfl, hb, hr⟩
      have hne : n ≠ i := by omega
      have hmn : more L i n = L n := by unfold more; rw [if_neg hne]
      refine ⟨hclose L hI.1 hE, fun h => absurd (hmn.symm.trans h) (by rw [hLn]; simp), fun _ => ?_⟩
      rw [hdst]
      refine ⟨hF0 a i v hl hF, below_step hB hb, fun j hj hmj => ?_⟩
      by_cases hji : j = i
      · subst hji
        unfold T
        rw [put_same (hsz a j hl hF)]
        exact hr
      · unfold T
        rw [put_other (fun e => hji (hinj i j hl hj e).symm)]
        have : L j = true := by unfold more at hmj; rwa [if_neg hji] at hmj
        exact hup j _ _ _ (hR j hj this) hb
    · have : i = n := by omega
      subst this
      obtain ⟨hg, hlt, hst⟩ := hlast o ho
      refine ⟨hg, fun L a w hI hLi hE => ?_⟩
      obtain ⟨hF, hB, hR⟩ := hI.2.2 hLi
      have hall := covers_all hcov (L := more L i) (hclose L hI.1 hE) (by simp [more])
      have hall' : ∀ j, j < i → L j = true := fun j hj => by
        have := hall j (by omega)
        unfold more at this
        rwa [if_neg (by omega)] at this
      refine Oper.wp_mono ?_ (hst a w hF hB (fun j hj => hR j hj (hall' j hj)))
      intro a' w' hq
      exact ⟨hclose L hI.1 hE, fun _ => hq, fun h => by simp [more] at h⟩
variable {w0 : World} {D : Nat → Nat} {R : Nat → Value → World → Prop} {F0 : Act → Prop} {i : Nat} {o : Oper} {a : Act} {w : World} {r : Value → World → Prop}
attribute [local go_sem] Oper.semAt_some
theorem ob_nil {p : Nat} {ad : Addr} (ho : o.op = .nilCheck (.tmp p)) (hx : T a p = .pointer (some ad)) (hr : r (.pointer (some ad)) w) : o.wp Try.prog a w (Leaves r o a w) Q := by
  obtain ⟨dst, op, type, pos, after, guard⟩ := o
  simp only at ho
  subst ho
  refine ob_value (v := .pointer (some ad)) (w' := w) ?_ (Below.refl _ _) hr
  simp [execOp, Act.eval, hx, go_sem]
set_option maxRecDepth 10000 in
theorem ob_text {p B : Nat} (ho : o.op = .fieldAddr 85 (.tmp p) 0) (hx : T a p = .pointer (some ⟨B, 0, none⟩)) (hr : r (.pointer (some ⟨B, 0, none⟩)) w) : o.wp Try.prog a w (Leaves r o a w) Q := by
  obtain ⟨dst, op, type, pos, after, guard⟩ := o
  simp only at ho
  subst ho
  refine ob_value (v := .pointer (some ⟨B, 0, none⟩)) (w' := w) ?_ (Below.refl _ _) hr
  simp [execOp, Act.eval, hx, go_sem]
set_option maxRecDepth 10000 in
theorem ob_at {p B : Nat} (ho : o.op = .fieldAddr 85 (.tmp p) 1) (hx : T a p = .pointer (some ⟨B, 0, none⟩)) (hr : r (.pointer (some ⟨B, 1, none⟩)) w) : o.wp Try.prog a w (Leaves r o a w) Q := by
  obtain ⟨dst, op, type, pos, after, guard⟩ := o
  simp only at ho
  subst ho
  refine ob_value (v := .pointer (some ⟨B, 1, none⟩)) (w' := w) ?_ (Below.refl _ _) hr
  simp [execOp, Act.eval, hx, go_sem]
theorem ob_load9 {p : Nat} {ad : Addr} {v : ByteArray} (ho : o.op = .load 9 (.tmp p)) (hx : T a p = .pointer (some ad)) (hc : w.cell? ad = some (.string v)) (hr : r (.string v) w) : o.wp Try.prog a w (Leaves r o a w) Q := by
  obtain ⟨dst, op, type, pos, after, guard⟩ := o
  simp only at ho
  subst ho
  refine ob_value (v := .string v) (w' := w) ?_ (Below.refl _ _) hr
  simp [execOp, Act.eval, hx, go_sem, hc]
theorem ob_load3 {p : Nat} {ad : Addr} {v : Int} (ho : o.op = .load 3 (.tmp p)) (hx : T a p = .pointer (some ad)) (hc : w.cell? ad = some (.int .i64 v)) (hr : r (.int .i64 v) w) : o.wp Try.prog a w (Leaves r o a w) Q := by
  obtain ⟨dst, op, type, pos, after, guard⟩ := o
  simp only at ho
  subst ho
  refine ob_value (v := .int .i64 v) (w' := w) ?_ (Below.refl _ _) hr
  simp [execOp, Act.eval, hx, go_sem, hc]
theorem ob_index9 {p q : Nat} {s : ByteArray} {k : Nat} (ho : o.op = .index 9 (.tmp p) (.tmp q)) (hx : T a p = .string s) (hy : T a q = .int .i64 (k : Nat)) (hk : k < s.size) (hr : r (.int .u8 (s[k].toNat : Nat)) w) : o.wp Try.prog a w (Leaves r o a w) Q := by
  obtain ⟨dst, op, type, pos, after, guard⟩ := o
  simp only at ho
  subst ho
  have hk' : (k : Int) < (s.size : Int) := by omega
  refine ob_value (v := .int .u8 (s[k].toNat : Nat)) (w' := w) ?_ (Below.refl _ _) hr
  simp [execOp, Act.eval, hx, hy, go_sem, hk']
set_option maxRecDepth 10000 in
theorem ob_slice1b {p b : Nat} (ho : o.op = .buildSlice 118 1 #[(0, .tmp p)]) (hty : o.type = 118) (hp : T a p = .int .u8 (b : Nat)) (hr : ∀ g w', BytesAt w' (some ⟨g, 0, none⟩) [b] → r (.slice (some ⟨g, 0, none⟩) 1 1) w') : o.wp Try.prog a w (Leaves r o a w) Q := by
  obtain ⟨dst, op, type, pos, after, guard⟩ := o
  simp only at ho hty
  subst ho hty
  refine ob_value (w' := w.alloc (.cells ([b].map (fun b : Nat => Value.int .u8 (b : Nat))).toArray 5)) ?_ ((Below.refl _ _).alloc (Nat.le_refl _) _) (hr _ _ (bytesAt_new w [b] 5 (0, 0)))
  simp [execOp, Act.eval, hp, go_sem]
theorem enters66 : Enters 89 := fun args w => by simp [go_sem]
end
end Go.Proofs.Ytjmbimgofceanaa

/- ere's atom: the byte that means itself. -/
namespace Go.Proofs.Ytjmbimgofceanaa
open Go.RowKit

theorem nb_put4 {u : World} {R A : Nat} {x : Nd} (h : NB u R x) (hne : R ≠ A) (t : Oct.S) : NB (put4 u A t) R x := (((h.set hne _ _).set hne _ _).set hne _ _).set hne _ _
/-- THE STATE of ere.atom -/
structure At (w : World) (s : ByteArray) (B R A d : Nat) (u : World) (i : Nat) (x : Oct.S) : Prop where
  res : NB u R zeroNd
  box : SB u A x
  rd : RB u B s i d
  gm : GM u
  grown : w.grownBy u (some B)
  hR : R = w.heap.size
  hA : A = w.heap.size + 1
  hB : B < w.heap.size
  hB0 : B ≠ 0
section
variable {w : World} {s : ByteArray} {B R A d : Nat} {u u' : World} {i : Nat} {x : Oct.S}
theorem At.later (h : At w s B R A d u i x) (hb : Below u.heap.size u u') : At w s B R A d u' i x :=
  ⟨h.res.later hb, h.box.later hb, h.rd.later hb, h.gm.later hb, grown_below h.grown hb, h.hR, h.hA, h.hB, h.hB0⟩
theorem At.read (h : At w s B R A d u i x) {j : Nat} (hg : u.grownBy u' (some B)) (hr : RB u' B s j d) : At w s B R A d u' j x := by
  have h1 := h.hR
  have h2 := h.hA
  have h3 := h.hB
  exact ⟨h.res.grown hg (by simp; omega), (hg.block A h.box.lt (by simp; omega)).trans h.box, hr, h.gm.grown hg h.hB0, grown_trans h.grown hg, h1, h2, h3, h.hB0⟩
theorem At.put (h : At w s B R A d u i x) (t : Oct.S) : At w s B R A d (put4 u A t) i t := by
  have h1 := h.hR
  have h2 := h.hA
  have h3 := h.hB
  exact ⟨nb_put4 h.res (by omega) t, h.box.put4 t, rb_put4 h.rd (by omega) t, gm_other (gm_other (gm_other (gm_other h.gm (by omega) _ _) (by omega) _ _) (by omega) _ _) (by omega) _ _, grown_put4 h.grown (by omega) t, h1, h2, h3, h.hB0⟩
theorem At.fin (h : At w s B R A d u i x) (hi : i ≤ s.size) : Reads w B s d (.ok (setT x) i) (TreeV w.heap.size) (.returned (Nd.val ⟨(2 : Nat), x, none, 0, 0, 0, 0⟩)) (put8 u R ⟨(2 : Nat), x, none, 0, 0, 0, 0⟩) := by
  have h1 := h.hR
  have h3 := h.hB
  exact ⟨hi, _, rfl, ⟨_, rfl, NodeAt.leaf _ _ 2 x 0 0 none 0⟩, put8_rb h.rd (by omega) _, put8_grown h.grown (by omega) _⟩
end
def Fr17 (act a : Act) : Prop := a.tmps.size = 65 ∧ a.defers = act.defers ∧ ∀ k, k < 45 ∨ 56 ≤ k → a.tmps[k]? = act.tmps[k]?
theorem Fr17.put {act a : Act} (h : Fr17 act a) {k : Nat} (hd : 45 ≤ k) (hd2 : k < 56) (v : Value) : Fr17 act (a.put (some k) v) := by
  obtain ⟨h1, h2, h3⟩ := h
  refine ⟨by simp [Act.put, h1], by simp [Act.put, h2], fun j hj => ?_⟩
  simp only [Act.put]
  rw [Array.getElem?_setIfInBounds_ne (by omega)]
  exact h3 j hj
theorem fr17_T {act a : Act} (h : Fr17 act a) {k : Nat} (hk : k < 45 ∨ 56 ≤ k) : T a k = T act k := by unfold T; rw [h.2.2 k hk]
theorem fr17_lit {act a : Act} (h : Fr17 act a) (hs : act.tmps.size = 65) : a = (((((((((((act.put (some 45) (T a 45)).put (some 46) (T a 46)).put (some 47) (T a 47)).put (some 48) (T a 48)).put (some 49) (T a 49)).put (some 50) (T a 50)).put (some 51) (T a 51)).put (some 52) (T a 52)).put (some 53) (T a 53)).put (some 54) (T a 54)).put (some 55) (T a 55)) := by
  obtain ⟨h1, h2, h3⟩ := h
  obtain ⟨tmps, defers⟩ := a
  simp only at h1 h2 h3
  simp only [Act.put, Act.mk.injEq]
  refine ⟨?_, h2⟩
  apply Array.ext_getElem?
  intro k
  have hT : ∀ j, j < 65 → tmps[j]? = some (T ⟨tmps, defers⟩ j) := fun j hj => by
    have : j < tmps.size := by omega
    simp [T, this]
  by_cases hk : k < 45 ∨ 56 ≤ k
  · rw [h3 k hk, Array.getElem?_setIfInBounds_ne (by omega), Array.getElem?_setIfInBounds_ne (by omega), Array.getElem?_setIfInBounds_ne (by omega), Array.getElem?_setIfInBounds_ne (by omega), Array.getElem?_setIfInBounds_ne (by omega), Array.getElem?_setIfInBounds_ne (by omega), Array.getElem?_setIfInBounds_ne (by omega), Array.getElem?_setIfInBounds_ne (by omega), Array.getElem?_setIfInBounds_ne (by omega), Array.getElem?_setIfInBounds_ne (by omega), Array.getElem?_setIfInBounds_ne (by omega)]
  · have hk' : k = 45 ∨ k = 46 ∨ k = 47 ∨ k = 48 ∨ k = 49 ∨ k = 50 ∨ k = 51 ∨ k = 52 ∨ k = 53 ∨ k = 54 ∨ k = 55 := by omega
    rcases hk' with rfl | rfl | rfl | rfl | rfl | rfl | rfl | rfl | rfl | rfl | rfl <;> rw [hT _ (by decide)] <;> simp [hs]
def R17 (B k : Nat) (s : ByteArray) (b : Nat) : Nat → Value → World → Prop
  | 0, v, _ => v = .pointer (some ⟨B, 0, none⟩)
  | 1, v, _ => v = .pointer (some ⟨B, 0, none⟩)
  | 2, v, _ => v = .pointer (some ⟨B, 0, none⟩)
  | 3, v, _ => v = .string s
  | 4, v, _ => v = .pointer (some ⟨B, 0, none⟩)
  | 5, v, _ => v = .pointer (some ⟨B, 0, none⟩)
  | 6, v, _ => v = .pointer (some ⟨B, 1, none⟩)
  | 7, v, _ => v = .int .i64 (k : Nat)
  | 8, v, _ => v = .int .u8 (b : Nat)
  | 9, v, w => ∃ g : Nat, v = .slice (some ⟨g, 0, none⟩) 1 1 ∧ BytesAt w (some ⟨g, 0, none⟩) [b]
  | 10, v, _ => v = setV (Oct.has [b])
  | _, _, _ => True
set_option maxRecDepth 100000 in
set_option maxHeartbeats 1000000 in
theorem reg17 {act : Act} {w : World} {s : ByteArray} {B R A d : Nat} {W : World} {k : Nat} {x : Oct.S} {Q : Exit → Act → World → Prop} (hT0 : T act 0 = .pointer (some ⟨B, 0, none⟩)) (hT3 : T act 3 = .pointer (some ⟨A, 0, none⟩)) (hsz : act.tmps.size = 65)
    (hS : At w s B R A d W k x) (hk : k < s.size)
    (K : ∀ a' W', Fr17 act a' → At w s B R A d W' k (Oct.has [byt s k]) → Q .normal a' W') : (Code.region 17 (opsOf Try.f83 17) true).wp Try.prog Q act W := by
  refine wp_region_last (by kernel_rfl) 11 (by kernel_rfl) (fun i => 45 + i) (R17 B k s (byt s k)) (Fr17 act) ?up ?f0 ?sz ?inj (by kernel_rfl) ?duty ⟨hsz, rfl, fun _ _ => rfl⟩
  case up =>
    intro i v w w' h hb
    match i, h with
    | 0, h => exact h
    | 1, h => exact h
    | 2, h => exact h
    | 3, h => exact h
    | 4, h => exact h
    | 5, h => exact h
    | 6, h => exact h
    | 7, h => exact h
    | 8, h => exact h
    | 9, ⟨g, h1, h2⟩ => exact ⟨g, h1, bytesAt_later hb h2⟩
    | 10, h => exact h
    | _ + 11, _ => trivial
  case f0 =>
    intro a i v hi h
    exact h.put (by omega) (by omega) v
  case sz =>
    intro a i hi h
    rw [h.1]
    show 45 + i < 65
    omega
  case inj =>
    intro i j _ _ h
    exact Nat.add_left_cancel h
  case duty =>
    have hTa : ∀ {a : Act}, Fr17 act a → T a 0 = .pointer (some ⟨B, 0, none⟩) := fun h => (fr17_T h (.inl (by decide))).trans hT0
    refine ⟨⟨fun _ => ⟨rfl, duty_free rfl (by simp) rfl fun a u hF hB hE Q => ?s0⟩, fun h => absurd h (by decide)⟩, ⟨fun _ => ⟨rfl, duty_free rfl (by simp) rfl fun a u hF hB hE Q => ?s1⟩, fun h => absurd h (by decide)⟩, ⟨fun _ => ⟨rfl, duty_free rfl (by simp) rfl fun a u hF hB hE Q => ?s2⟩, fun h => absurd h (by decide)⟩, ⟨fun _ => ⟨rfl, duty_free rfl (by simp) rfl fun a u hF hB hE Q => ?s3⟩, fun h => absurd h (by decide)⟩, ⟨fun _ => ⟨rfl, duty_free rfl (by simp) rfl fun a u hF hB hE Q => ?s4⟩, fun h => absurd h (by decide)⟩, ⟨fun _ => ⟨rfl, duty_free rfl (by simp) rfl fun a u hF hB hE Q => ?s5⟩, fun h => absurd h (by decide)⟩, ⟨fun _ => ⟨rfl, duty_free rfl (by simp) rfl fun a u hF hB hE Q => ?s6⟩, fun h => absurd h (by decide)⟩, ⟨fun _ => ⟨rfl, duty_free rfl (by simp) rfl fun a u hF hB hE Q => ?s7⟩, fun h => absurd h (by decide)⟩, ⟨fun _ => ⟨rfl, duty_free rfl (by simp) rfl fun a u hF hB hE Q => ?s8⟩, fun h => absurd h (by decide)⟩, ⟨fun _ => ⟨rfl, duty_free rfl (by simp) rfl fun a u hF hB hE Q => ?s9⟩, fun h => absurd h (by decide)⟩, ⟨fun _ => ⟨rfl, duty_free rfl (by simp) rfl fun a u hF hB hE Q => ?s10⟩, fun h => absurd h (by decide)⟩, ⟨fun h => absurd h (by decide), fun _ => ⟨rfl, by simp, fun a u hF hB hR => ?last⟩⟩, trivial⟩
    case s0 => exact ob_move rfl (hTa hF) rfl
    case s1 => exact ob_nil rfl (hE ⟨0, .data⟩ (by simp) rfl) rfl
    case s2 => exact ob_text rfl (hE ⟨1, .data⟩ (by simp) rfl) rfl
    case s3 => exact ob_load9 rfl (hE ⟨2, .data⟩ (by simp) rfl) (hS.rd.later hB).cells.1 rfl
    case s4 => exact ob_move rfl (hTa hF) rfl
    case s5 => exact ob_nil rfl (hE ⟨4, .data⟩ (by simp) rfl) rfl
    case s6 => exact ob_at rfl (hE ⟨5, .data⟩ (by simp) rfl) rfl
    case s7 => exact ob_load3 rfl (hE ⟨6, .data⟩ (by simp) rfl) (hS.rd.later hB).cells.2.1 rfl
    case s8 => exact ob_index9 rfl (hE ⟨3, .data⟩ (by simp) rfl) (hE ⟨7, .data⟩ (by simp) rfl) hk (by show _ = _; rw [byt_eq hk])
    case s9 => exact ob_slice1b rfl rfl (hE ⟨8, .data⟩ (by simp) rfl) (fun g w' h => ⟨g, rfl, h⟩)
    case s10 =>
      obtain ⟨g, h1, h2⟩ := hE ⟨9, .data⟩ (by simp) rfl
      exact ob_call1 rfl enters66 h1 ((of_any _ 1 1 [byt s k] u rfl (by simp [maxLen]) h2 (by intro b hb; simp at hb; rw [hb]; exact byt_lt s k)).mono (fun _ w' h => ⟨_, h.1, h.2, rfl⟩))
    case last =>
      have hS0 := hS.later hB
      have hv : T a 55 = setV (Oct.has [byt s k]) := hR 10 (by decide)
      have hp := (fr17_T hF (k := 3) (by omega)).trans hT3
      obtain ⟨c0, c1, c2, c3⟩ := hS0.box.cells
      have f0 := hS0.box.frozen 0
      have f1 := hS0.box.frozen 1
      have f2 := hS0.box.frozen 2
      have f3 := hS0.box.frozen 3
      refine ob_skip (w' := put4 u A (Oct.has [byt s k])) ?_ ?_
      · unfold T at hv hp
        unfold setV at hv
        simp [execOp, Act.eval, hv, hp, go_sem, c0, c1, c2, c3, f0, f1, f2, f3, put4]
      · exact K _ _ hF (hS0.put _)
end Go.Proofs.Ytjmbimgofceanaa
