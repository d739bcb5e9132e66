/- past: grow. -/
import Derived.Test.YtobbcgendjakiaaG35
namespace Go.Proofs.Ytobbcgendjakiaa
open Go.RowKit Go.Maps Sf
attribute [local go_sem ↓] Go.wp_at_zero Go.wp_at_succ

theorem PaAt.textAt {P : Nat → Prop} {w : World} {B : Nat} {p : Pv} {L : La} (h : PaAt P w B p L) (k : Int × Int) : ∃ V, (L.tv k).getD (.slice none 0 0) = V ∧ OwnB w V (p.sh k) ∧ (∀ g, V.ownBlock = some g → (∃ V0, L.tv k = some V0 ∧ V0.ownBlock = some g) ∧ P g ∧ TyB w 5 g) := by
  cases e : L.tv k with
  | none =>
    refine ⟨.slice none 0 0, rfl, ?_, fun g hg => absurd hg nil_own⟩
    rw [h.tn k e]; exact owns_nil _ _ _
  | some V => exact ⟨V, rfl, h.tx k V e, fun g hg => ⟨⟨V, rfl, hg⟩, h.pT k V g e hg, ((h.tx k V e).ty hg).1⟩⟩
theorem text_end {P : Nat → Prop} {w w2 w' u : World} {B : Nat} {p : Pv} {L : La} (h : PaAt P w B p L) {k : Int × Int} {V V' : Value} {l' : List UInt8} (hV : ∀ g, V.ownBlock = some g → (∃ V0, L.tv k = some V0 ∧ V0.ownBlock = some g) ∧ P g ∧ TyB w 5 g) (k2 : Below w.heap.size w w2) (hf : FrP (Xb V) w2 w') (ho : OwnB w' V' l') (hg : ∀ g, V'.ownBlock = some g → V.ownBlock = some g ∨ w2.heap.size ≤ g)
    (hm : MapB 79 kvG goodG (.slice none 0 0) u L.ms (L.cs + 1) (fun t => if t = k then some V' else L.tv t)) (hgr : w'.grownBy u (some L.ms)) : PaAt (More P w u) u B ⟨fun t => if t = k then l' else p.sh t, p.gn, p.lb⟩ { L with cs := L.cs + 1, tv := fun t => if t = k then some V' else L.tv t } ∧ FrP P w u := by
  obtain ⟨es, cc, hms⟩ := h.shm.isMap
  have s2 := k2.size
  have s3 := hf.size
  have s4 := hgr.size
  have hX : ∀ x, Xb V x → (∃ V0, L.tv k = some V0 ∧ V0.ownBlock = some x) := fun x y => (hV x y).1
  have hfr : FrP (fun x => x = L.ms ∨ ∃ V0, L.tv k = some V0 ∧ V0.ownBlock = some x) w u := by
    refine ⟨hgr.os.trans (hf.os.trans k2.os), hgr.tape.trans (hf.tape.trans k2.tape), hgr.output.trans (hf.output.trans k2.output), by omega, fun x hk hn => ?_⟩
    rw [hgr.block x (by omega) (fun y => hn (.inl (Option.some.inj y))), hf.block x (by omega) (fun y => hn (.inr (hX x y))), k2.block x hk]
  have hmw : w'.heap[L.ms]? = some (.map es cc) := by
    have hl := h.low _ h.pB.2.1
    rw [hf.block _ (by omega) (fun x => map_ty hms (hV _ x).2.2), k2.block _ hl]
    exact hms
  have hou : OwnB u V' l' := ho.keep (fun b hb hl => hgr.block b hl (fun x => by
    have : b = L.ms := Option.some.inj x
    subst this
    exact map_ty hmw (ho.ty hb).1))
  refine ⟨h.text k hm hou hfr (fun g x => ?_), hfr.mono (fun x _ y => ?_)⟩
  · rcases hg g x with y | y
    · exact .inl (hV g y).1
    · exact .inr (by omega)
  · rcases y with rfl | ⟨V0, x1, x2⟩
    · exact h.pB.2.1
    · exact h.pT k V0 x x1 x2
set_option maxRecDepth 8000 in
set_option maxHeartbeats 1000000 in
theorem pgrow_any {P Pd : Nat → Prop} {w : World} {B C Bd K : Nat} {p : Pv} {d : Dk} (h : Pst P w B p C) (hd : Dsk Pd w Bd d K) (hap : ∀ k, P k → ¬ Pd k) {n : Nat} {f : Ino} (hf : d.ino n = some f) (q : Nat) (hC : C < 1000000000) :
    Calls Try.prog 30 #[.pointer (some ⟨B, 0, none⟩), .pointer (some ⟨Bd, 0, none⟩), .agg #[.int .i64 (n : Nat), .int .i64 (q : Nat), .int .i64 (f.gen : Nat), .int .i64 (f.bs.length : Nat)]] w fun e w' => e = .returned (.tuple #[]) ∧ PaTo P w B (p.grow n f.gen f.bs) (C + 1) w' := by
  obtain ⟨L, hL, hc⟩ := h.m
  obtain ⟨g, hg⟩ : ∃ g, f.gen = g := ⟨_, rfl⟩
  obtain ⟨z, hz⟩ : ∃ z, f.bs.length = z := ⟨_, rfl⟩
  have hfi := hd.wf.ino n f hf
  have hhi := hd.wf.hi
  have hK := hd.k
  have hg2 : g ≤ 1000000 := by omega
  have hn2 : n ≤ 1000000 := by omega
  have hz2 : z ≤ 1048576 := by omega
  rw [hg, hz]
  obtain ⟨w1, hw1⟩ : ∃ w1, w.alloc (.cells #[.int .i64 (n : Nat), .int .i64 (q : Nat), .int .i64 (g : Nat), .int .i64 (z : Nat)] 52) = w1 := ⟨_, rfl⟩
  have k1 : Below w.heap.size w w1 := by rw [← hw1]; exact (Below.refl _ _).alloc (Nat.le_refl _) _
  obtain ⟨A5, hA5⟩ : ∃ A, w.heap.size = A := ⟨_, rfl⟩
  have hst : StatB w1 A5 (.int .i64 (n : Nat)) (.int .i64 (q : Nat)) (.int .i64 (g : Nat)) (.int .i64 (z : Nat)) := by rw [← hw1, ← hA5]; exact heap_alloc_new w _
  have HW1 : Hid (w.alloc (.cells #[.int .i64 (n : Nat), .int .i64 (q : Nat), .int .i64 (g : Nat), .int .i64 (z : Nat)] 52) = w1 ∧ w.heap.size = A5) := ⟨hw1, hA5⟩
  have hL1 := (hL.later k1).later ((Below.refl _ w1).drew)
  obtain ⟨_, b1, _⟩ := (hL.later k1).cells
  obtain ⟨s0, s1, s2, s3, _⟩ := hst.cells
  have hgi : goodI ((n : Nat) : Int) := by unfold goodI; omega
  have hgl := hL1.gnm.get lawI (mt := 74) (e := 3) (by kernel_rfl) (by kernel_rfl) hgi (keyI _ hgi)
  obtain ⟨gn, hgn⟩ : ∃ x, p.gn (n : Int) = x := ⟨_, rfl⟩
  have hgn2 : gn ≤ 2000000 := by rw [← hgn]; exact h.ok.gn _
  have hv : ((gnF p (n : Int)).getD (.int .i64 0)) = .int .i64 (gn : Nat) := by
    unfold gnF
    rw [hgn]
    split
    · rename_i e; rw [e]; rfl
    · rfl
  rw [hv] at hgl
  have hgl : (Instr.lookup 74 (.map (some L.mg)) (.int .i64 (n : Nat)) false).run Try.prog w1.drew = .ok (.int .i64 (gn : Nat)) w1.drew := hgl
  obtain ⟨w2, hrun, hm2, hgr2, hs2⟩ := hL1.gnm.put lawI (mt := 74) (e := 3) (by kernel_rfl) (by unfold maxLen; omega) (k := ((n : Nat) : Int)) hgi keyI kvI_inj (.int .i64 (max (gn : Int) ((g : Int) + 1)))
  have hrun : (Instr.mapUpdate 74 (.map (some L.mg)) (.int .i64 (n : Nat)) (.int .i64 (max (gn : Int) ((g : Int) + 1)))).run Try.prog w1.drew = .ok () w2 := hrun
  clear hv hw1 hA5
  have hfr2 : FrP (fun k => k = L.mg) w w2 := (FrP.of_below (fun k => k = L.mg) k1).drew.grown hgr2 (fun k _ e => by cases e; rfl)
  have hgF : (fun y => if y = ((n : Nat) : Int) then some (Value.int .i64 (max (gn : Int) ((g : Int) + 1))) else gnF p y) = gnF (p.gens n g) := by
    funext y
    unfold gnF Pv.gens
    by_cases e : y = ((n : Nat) : Int)
    · subst e
      simp only [if_true, hgn]
      rw [if_neg (by omega)]
      have : ((max gn (g + 1) : Nat) : Int) = max (gn : Int) ((g : Int) + 1) := by
        rcases Nat.le_total gn (g + 1) with x | x
        · rw [Nat.max_eq_right x, Int.max_eq_right (by omega)]; rfl
        · rw [Nat.max_eq_left x, Int.max_eq_left (by omega)]
      rw [this]
    · simp only [if_neg e]
  rw [hgF] at hm2
  have hP2 := hL.gens (p' := p.gens n g) ⟨rfl, rfl⟩ hm2 hfr2
  have hok2 : PvOk (p.gens n g) (C + 1) := by
    refine ⟨h.ok.sh, fun m => ?_, fun t => ⟨(h.ok.lb t).1, by have := (h.ok.lb t).2; show (p.lb t).2.length ≤ C + 1; omega⟩⟩
    show (if m = ((n : Nat) : Int) then max (p.gn n) (g + 1) else p.gn m) ≤ _
    have := h.ok.gn m
    split
    · rw [hgn]; omega
    · exact this
  have hTo2 : PaTo P w B (p.gens n g) (C + 1) w2 := ⟨⟨hok2, ⟨_, hP2, by show L.cs ≤ C + 1; omega, by show L.cg + 1 ≤ C + 1; omega, by show L.cn ≤ C + 1; omega⟩, by omega⟩, hfr2.mono (fun k _ e => by subst e; exact hL.pB.2.2.1)⟩
  have st2 : StatB w2 A5 (.int .i64 (n : Nat)) (.int .i64 (q : Nat)) (.int .i64 (g : Nat)) (.int .i64 (z : Nat)) := (hgr2.block A5 (Array.getElem?_eq_some_iff.1 hst).1 (fun e => by
    have e2 : A5 = L.mg := Option.some.inj e
    have := hL.low _ hL.pB.2.2.1
    have := HW1.out.2
    omega)).trans hst
  obtain ⟨P2, hPe⟩ : ∃ P2, More P w w2 = P2 := ⟨_, rfl⟩
  obtain ⟨p2, hpe⟩ : ∃ p2, p.gens n g = p2 := ⟨_, rfl⟩
  obtain ⟨L2, hLe⟩ : ∃ L2 : La, { L with cg := L.cg + 1 } = L2 := ⟨_, rfl⟩
  have hL2c : L2.cs ≤ C ∧ L2.cg ≤ C + 1 ∧ L2.cn ≤ C := by rw [← hLe]; exact ⟨hc.1, by show L.cg + 1 ≤ C + 1; omega, hc.2.2⟩
  rw [hPe, hpe, hLe] at hP2
  rw [hpe] at hok2 hTo2
  have hgrow : p.grow n g f.bs = p2.more n g f.bs := by unfold Pv.grow; rw [hpe]
  obtain ⟨w3, hw3⟩ : ∃ w3, w2.alloc (.cells #[.int .i64 (n : Nat), .int .i64 (g : Nat)] 79) = w3 := ⟨_, rfl⟩
  obtain ⟨A6, hA6⟩ : ∃ A, w2.heap.size = A := ⟨_, rfl⟩
  have k3 : Below w2.heap.size w2 w3 := by rw [← hw3]; exact (Below.refl _ _).alloc (Nat.le_refl _) _
  have hk3 : w3.heap[A6]? = some (.cells #[.int .i64 (n : Nat), .int .i64 (g : Nat)] 79 (0, 0)) := by rw [← hw3, ← hA6]; exact heap_alloc_new w2 _
  have HW3 : Hid (w2.alloc (.cells #[.int .i64 (n : Nat), .int .i64 (g : Nat)] 79) = w3 ∧ w2.heap.size = A6) := ⟨hw3, hA6⟩
  have k4 : Below w2.heap.size w2 w3.drew := below_step k3 ((Below.refl _ w3).drew)
  have hL3 := hP2.later k3
  have hL4 := hP2.later k4
  obtain ⟨m3, _, _⟩ := hL3.cells
  have x0 : w3.cell? ⟨A6, 0, none⟩ = some (.int .i64 (n : Nat)) := by simp [World.cell?, hk3]
  have x1 : w3.cell? ⟨A6, 1, none⟩ = some (.int .i64 (g : Nat)) := by simp [World.cell?, hk3]
  obtain ⟨V, hV0, hV, hVg⟩ := hP2.textAt ((n : Nat), (g : Nat))
  have hgG : goodG (((n : Nat) : Int), ((g : Nat) : Int)) := ⟨by unfold goodI; simp only; omega, by unfold goodI; simp only; omega⟩
  have hgl3 := hL4.shm.get lawG (mt := 73) (e := 72) (by kernel_rfl) (by kernel_rfl) hgG (keyG _ hgG)
  rw [hV0] at hgl3
  have hgl3 : (Instr.lookup 73 (.map (some L2.ms)) (.agg #[.int .i64 (n : Nat), .int .i64 (g : Nat)]) false).run Try.prog w3.drew = .ok V w3.drew := hgl3
  obtain ⟨va, vc, hVf, _⟩ := hV.form
  obtain ⟨lk, hlk⟩ : ∃ x, (p2.sh ((n : Nat), (g : Nat))).length = x := ⟨_, rfl⟩
  have hlk2 : lk ≤ 1048576 := by rw [← hlk]; exact hok2.sh _
  rw [hlk] at hVf
  subst hVf
  have HZ : Hid (f.bs.length = z ∧ f.gen = g) := ⟨hz, hg⟩
  have hd4 : Dsk Pd w3.drew Bd d K := by
    have hs4 := k4.size
    refine hd.keep (fun k hk => ?_) (Nat.le_trans hfr2.size k4.size)
    have hl := hd.m.low k hk
    rw [k4.block k (Nat.lt_of_lt_of_le hl hfr2.size), hfr2.block k hl (fun e => hap _ hL.pB.2.2.1 (by rw [← e]; exact hk))]
  have y0 : w3.cell? ⟨A5, 0, none⟩ = some (.int .i64 (n : Nat)) := cell_later k3 _ _ _ st2.cells.1
  have y2 : w3.cell? ⟨A5, 2, none⟩ = some (.int .i64 (g : Nat)) := cell_later k3 _ _ _ st2.cells.2.2.1
  have y3 : w3.cell? ⟨A5, 3, none⟩ = some (.int .i64 (z : Nat)) := cell_later k3 _ _ _ st2.cells.2.2.2.1
  obtain ⟨u0, u1, u2, u3, _⟩ := st2.cells
  have hlow := hL.low
  obtain ⟨w4, hw4⟩ : ∃ w4, w3.drew = w4 := ⟨_, rfl⟩
  have HW4 : Hid (w3.drew = w4) := hw4
  have v0 : w4.cell? ⟨A5, 0, none⟩ = some (.int .i64 (n : Nat)) := by rw [← hw4]; exact y0
  have v2 : w4.cell? ⟨A5, 2, none⟩ = some (.int .i64 (g : Nat)) := by rw [← hw4]; exact y2
  have v3 : w4.cell? ⟨A5, 3, none⟩ = some (.int .i64 (z : Nat)) := by rw [← hw4]; exact y3
  have k4' : Below w2.heap.size w2 w4 := by rw [← hw4]; exact k4
  have hn4 : w4.heap[A6]? = some (.cells #[.int .i64 (n : Nat), .int .i64 (g : Nat)] 79 (0, 0)) := by rw [← hw4]; exact hk3
  rw [hw4] at hd4
  by_cases hzl : z ≤ lk
  · have t1 : (z : Int) ≤ (lk : Int) := by omega
    have HP : Hid (PaTo P w B (p.grow n g f.bs) (C + 1) w4) := by
      have e : p2.more n g f.bs = p2 := by unfold Pv.more; rw [if_pos (by rw [hlk, HZ.out.1]; exact hzl)]
      rw [hgrow, e]
      exact hTo2.then k4'
    clear hL1 hL hV hVg hV0 hst st2 hk3 k1 k3 k4 k4' hw3 hA6 h hc hd hd4 hap hfi hhi hfr2 hgF hm2 hP2 hok2 hTo2 hL3 hL4 hgr2 hs2 hPe hpe hLe hL2c hgrow hw4 hlow hn4 hf hg hz hlk hgn hzl
    go_enter Try.func30, Try.ntmps30
    go_upto_region 1 with fail
    rw [HW1.out.1, HW1.out.2]
    clear HW1
    go_region
    clear hrun hgl s0 s1 s2 s3 b1
    go_upto_region 3 with fail
    rw [HW3.out.1, HW3.out.2]
    clear HW3 u0 u1 u2 u3
    go_region
    rw [HW4.out]
    clear HW4 hgl3 x0 x1 y0 y2 y3 m3
    go_wp2_with fail
    first | go_end0 | (simp only [Exit.inBlock, Exit.then]; refine bodyPost_ret (results_none rfl _ _ _) rfl ?_) | refine bodyPost_ret (results_none rfl _ _ _) rfl ?_
    exact ⟨rfl, HP.out⟩
  · have t1 : ¬ (z : Int) ≤ (lk : Int) := by omega
    have HC : Hid (Calls Try.prog 33 #[.pointer (some ⟨Bd, 0, none⟩), .int .i64 (n : Nat), .int .i64 (g : Nat), .int .i64 (lk : Nat), .int .i64 ((z : Int) - (lk : Int))] w4 _) := read_any hd4 (n : Nat) (g : Nat) (lk : Nat) ((z : Int) - (lk : Int)) (by unfold goodI; omega) (by unfold goodI; omega) (by unfold goodI; omega)
    have hre : readE d (n : Nat) (g : Nat) (lk : Nat) ((z : Int) - (lk : Int)) = 0 := by
      unfold readE inoZ
      rw [if_neg (by omega), if_pos (by omega), Int.toNat_natCast, hf]
      simp only
      rw [if_pos (by rw [hg])]
    have HRE : Hid (readE d (n : Nat) (g : Nat) (lk : Nat) ((z : Int) - (lk : Int)) = 0 ∧ inoZ d (n : Nat) = some f) := ⟨hre, by unfold inoZ; rw [if_pos (by omega), Int.toNat_natCast, hf]⟩
    have HK : Hid (∀ w5 w' V', Below w4.heap.size w4 w5 → FrP (Xb (.slice va lk vc)) w5 w' → OwnB w' V' (p2.sh ((n : Nat), (g : Nat)) ++ f.bs.drop lk) → (∀ x, V'.ownBlock = some x → (Value.slice va lk vc).ownBlock = some x ∨ w5.heap.size ≤ x) → ∃ u2, (Instr.mapUpdate 73 (.map (some L2.ms)) (.agg #[.int .i64 (n : Nat), .int .i64 (g : Nat)]) V').run Try.prog w' = .ok () u2 ∧ PaTo P w B (p.grow n g f.bs) (C + 1) u2) := fun w5 w' V' k5 hfx ho hgg => by
      have k25 : Below w2.heap.size w2 w5 := below_step k4' k5
      obtain ⟨es, cc, hms⟩ := hP2.shm.isMap
      have hmw : MapB 79 kvG goodG (.slice none 0 0) w' L2.ms L2.cs L2.tv := hP2.shm.same (by
        have hl := hP2.low _ hP2.pB.2.1
        rw [hfx.block _ (Nat.lt_of_lt_of_le hl k25.size) (fun x => map_ty hms (hVg _ x).2.2), k25.block _ hl])
      obtain ⟨u2, hrun, hm, hgr, _⟩ := hmw.put lawG (mt := 73) (e := 72) (by kernel_rfl) (by unfold maxLen; omega) (k := (((n : Nat) : Int), ((g : Nat) : Int))) hgG keyG kvG_inj V'
      obtain ⟨r1, r2⟩ := text_end hP2 hVg k25 hfx ho hgg hm hgr
      refine ⟨u2, hrun, ?_⟩
      have e : p2.more n g f.bs = ⟨fun k => if k = (((n : Nat) : Int), ((g : Nat) : Int)) then p2.sh ((n : Nat), (g : Nat)) ++ f.bs.drop lk else p2.sh k, p2.gn, p2.lb⟩ := by unfold Pv.more; rw [if_neg (by rw [hlk, HZ.out.1]; omega), hlk]
      rw [hgrow, e]
      refine hTo2.trans ?_ hlow
      rw [hPe]
      refine ⟨⟨⟨fun k => ?_, hok2.gn, hok2.lb⟩, ⟨_, r1, by show L2.cs + 1 ≤ C + 1; omega, by show L2.cg ≤ C + 1; omega, by show L2.cn ≤ C + 1; omega⟩, by omega⟩, r2⟩
      by_cases ek : k = (((n : Nat) : Int), ((g : Nat) : Int))
      · simp only [if_pos ek]
        rw [List.length_append, List.length_drop, hlk, HZ.out.1]
        omega
      · simp only [if_neg ek]
        exact hok2.sh k
    have HX : Hid (∀ w5, Below w4.heap.size w4 w5 → OwnB w5 (.slice va lk vc) (p2.sh ((n : Nat), (g : Nat))) ∧ w5.cell? ⟨B, 0, none⟩ = some (.map (some L2.ms)) ∧ w5.cell? ⟨A6, 0, none⟩ = some (.int .i64 (n : Nat)) ∧ w5.cell? ⟨A6, 1, none⟩ = some (.int .i64 (g : Nat)) ∧ ¬ Xb (.slice va lk vc) B ∧ ¬ Xb (.slice va lk vc) A6 ∧ ∀ x, Xb (.slice va lk vc) x → x < w4.heap.size) := fun w5 k5 => by
      have k25 : Below w2.heap.size w2 w5 := below_step k4' k5
      refine ⟨hV.keep (fun b _ hl => k25.block b hl), (hP2.later k25).cells.1, cell_later k5 _ _ _ (by simp [World.cell?, hn4]), cell_later k5 _ _ _ (by simp [World.cell?, hn4]), fun x => absurd (TyB.ne (hVg _ x).2.2 hP2.tyB) (by decide), fun x => ?_, fun x hx => Nat.lt_of_lt_of_le (hP2.low _ (hVg _ hx).2.1) k4'.size⟩
      have := hP2.low _ (hVg _ x).2.1
      omega
    have HLN : Hid ((p2.sh ((n : Nat), (g : Nat))).length = lk ∧ (f.bs.drop lk).length = z - lk) := ⟨hlk, by rw [List.length_drop, HZ.out.1]⟩
    clear hL1 hL hV hVg hV0 hst st2 hk3 k1 k3 k4 k4' hw3 hA6 h hc hd hd4 hap hfi hhi hfr2 hgF hm2 hP2 hok2 hTo2 hL3 hL4 hgr2 hs2 hPe hpe hLe hL2c hgrow hw4 hlow hn4 hf hg hz hlk hgn hzl hre
    go_enter Try.func30, Try.ntmps30
    go_upto_region 1 with fail
    rw [HW1.out.1, HW1.out.2]
    clear HW1
    go_region
    clear hrun hgl s0 s1 s2 s3 b1
    go_upto_region 3 with fail
    rw [HW3.out.1, HW3.out.2]
    clear HW3 u0 u1 u2 u3
    go_region
    rw [HW4.out]
    clear HW4 hgl3 x0 x1 y0 y2 y3 m3
    go_wp2_with fail
    refine HC.out.mono ?_
    rintro e w5 (⟨hx, _⟩ | ⟨_, f', V8, hf', _, _, rfl, r8, k5⟩)
    · exact absurd HRE.out.1 hx
    obtain rfl : f = f' := Option.some.inj (HRE.out.2.symm.trans hf')
    have hcut : Ino.cut f ((lk : Nat) : Int).toNat ((z : Int) - (lk : Int)).toNat = f.bs.drop lk := by
      unfold Ino.cut
      rw [Int.toNat_natCast]
      refine List.take_of_length_le ?_
      rw [HLN.out.2]
      omega
    rw [hcut] at r8
    obtain ⟨n8, hn8⟩ : ∃ n8, (f.bs.drop lk).length = n8 := ⟨_, rfl⟩
    have HN8 : Hid ((f.bs.drop lk).length = n8) := hn8
    rw [hn8] at r8
    clear hn8
    have HY : Hid (∀ w, FrP (Xb (.slice va lk vc)) w5 w → LAt w V8 (uv (f.bs.drop lk))) := fun w hw => by
      have hl := owns_lat r8
      rcases r8.2 with ⟨e8, h0⟩ | ⟨b8, cap, cur, e8, hb8, _⟩
      · rw [e8]
        have : uv (f.bs.drop lk) = [] := List.eq_nil_of_length_eq_zero (by rw [uv_len, HN8.out]; exact h0)
        rw [this]
        exact lat_nil w
      · rw [e8] at hl ⊢
        refine lat_frp hw (fun x => ?_) hl
        have := (HX.out w5 k5).2.2.2.2.2.2 _ x
        omega
    obtain ⟨ho, z0, z1, z2, z3, z4, _⟩ := HX.out w5 k5
    have HO : Hid (OwnB w5 (.slice va lk vc) (p2.sh ((n : Nat), (g : Nat))) ∧ ¬ Xb (.slice va lk vc) B ∧ ¬ Xb (.slice va lk vc) A6) := ⟨ho, z3, z4⟩
    have HK5 : Hid (Below w4.heap.size w4 w5) := k5
    obtain ⟨va8, vc8, rfl⟩ := own_form r8
    clear HC hf' hcut r8 k5 ho z3 z4 HRE HX
    go_upto_region 6 with fail
    refine regGrw B A6 L2.ms n g _ _ (p2.sh ((n : Nat), (g : Nat))) (f.bs.drop lk) (by kernel_rfl) rfl rfl rfl rfl rfl z0 z1 z2 HO.out.2.1 HO.out.2.2 HO.out.1 HY.out (by rw [HLN.out.1, HLN.out.2]; omega) ?_
    intro a' w' V' ha hfx ho hgg
    obtain ⟨u9, hr, hp⟩ := HK.out w5 w' V' HK5.out hfx ho hgg
    refine ⟨u9, hr, ?_⟩
    have HP : Hid (PaTo P w B (p.grow n g f.bs) (C + 1) u9) := hp
    obtain ⟨tm, df⟩ := a'
    simp only at ha
    subst ha
    clear hr hp hfx ho hgg
    first | go_end0 | (simp only [Exit.inBlock, Exit.then]; refine bodyPost_ret (results_none rfl _ _ _) rfl ?_) | refine bodyPost_ret (results_none rfl _ _ _) rfl ?_
    exact ⟨rfl, HP.out⟩
end Go.Proofs.Ytobbcgendjakiaa
