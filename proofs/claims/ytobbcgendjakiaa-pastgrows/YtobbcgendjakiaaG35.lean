/- past: arrive. -/
import Derived.Test.YtobbcgendjakiaaG34
namespace Go.Proofs.Ytobbcgendjakiaa
open Go.RowKit Go.Maps Sf
attribute [local go_sem ↓] Go.wp_at_zero Go.wp_at_succ

theorem nil_own {g : Nat} : ¬ (Value.slice none 0 0).ownBlock = some g := fun e => by simp [Value.ownBlock] at e
/-- what a name has had, as it lies -/
theorem PaAt.labAt {P : Nat → Prop} {w : World} {B : Nat} {p : Pv} {L : La} (h : PaAt P w B p L) (s : ByteArray) : ∃ V, (lbF p L s).getD labZ = .agg #[.int .i64 ((p.lb s).1 : Nat), V] ∧ OwnI w V (p.lb s).2 ∧ (∀ g, V.ownBlock = some g → (∃ V0, L.lv s = some V0 ∧ V0.ownBlock = some g) ∧ P g ∧ TyB w 3 g) := by
  unfold lbF
  cases e : L.lv s with
  | none =>
    refine ⟨.slice none 0 0, ?_, ?_, fun g hg => absurd hg nil_own⟩
    · rw [h.ln s e]; rfl
    · rw [h.ln s e]; exact owns_nil _ _ _
  | some V => exact ⟨V, rfl, h.lx s V e, fun g hg => ⟨⟨V, rfl, hg⟩, h.pL s V g e hg, ((h.lx s V e).ty hg).1⟩⟩
theorem arr_end {P : Nat → Prop} {w w2 w' u : World} {B C : Nat} {p : Pv} {L : La} (h : PaAt P w B p L) (hok : PvOk p C) (hc : L.cs ≤ C ∧ L.cg ≤ C ∧ L.cn ≤ C) (hC : C < 1000000000) {s : ByteArray} {q n : Nat} {V V' : Value} (hq : q ≤ 1000000) (hlt : (p.lb s).1 < q) (hV : ∀ g, V.ownBlock = some g → (∃ V0, L.lv s = some V0 ∧ V0.ownBlock = some g) ∧ P g ∧ TyB w 3 g) (k2 : Below w.heap.size w w2) (hf : FrP (Xb V) w2 w') (ho : OwnI w' V' ((p.lb s).2 ++ [(n : Int)])) (hg : ∀ g, V'.ownBlock = some g → V.ownBlock = some g ∨ w2.heap.size ≤ g)
    (hm : MapB 9 kvS goodS labZ u L.mn (L.cn + 1) (fun t => if t = s then some (labV q V') else lbF p L t)) (hgr : w'.grownBy u (some L.mn)) : PaTo P w B (p.arr s q n) (C + 1) u := by
  have e : p.arr s q n = ⟨p.sh, p.gn, fun t => if t = s then (q, (p.lb s).2 ++ [(n : Int)]) else p.lb t⟩ := by unfold Pv.arr; rw [if_pos hlt]
  obtain ⟨es, cc, hmn⟩ := h.lbm.isMap
  have s2 := k2.size
  have s3 := hf.size
  have s4 := hgr.size
  have hX : ∀ k, k < w.heap.size → Xb V k → (∃ V0, L.lv s = some V0 ∧ V0.ownBlock = some k) := fun k _ x => (hV k x).1
  have hfr : FrP (fun k => k = L.mn ∨ ∃ V0, L.lv s = some V0 ∧ V0.ownBlock = some k) w u := by
    refine ⟨hgr.os.trans (hf.os.trans k2.os), hgr.tape.trans (hf.tape.trans k2.tape), hgr.output.trans (hf.output.trans k2.output), by omega, fun k hk hn => ?_⟩
    rw [hgr.block k (by omega) (fun x => hn (.inl (Option.some.inj x))), hf.block k (by omega) (fun x => hn (.inr (hX k hk x))), k2.block k hk]
  have hmw : w'.heap[L.mn]? = some (.map es cc) := by
    have hl := h.low _ h.pB.2.2.2
    rw [hf.block _ (by omega) (fun x => map_ty hmn (hV _ x).2.2), k2.block _ hl]
    exact hmn
  have hou : OwnI u V' ((p.lb s).2 ++ [(n : Int)]) := ho.keep (fun b hb hl => hgr.block b hl (fun x => by
    have : b = L.mn := Option.some.inj x
    subst this
    exact map_ty hmw (ho.ty hb).1))
  have hT := h.lab s (q := q) hm hou hfr (fun g x => by
    rcases hg g x with y | y
    · exact .inl (hV g y).1
    · exact .inr (by omega))
  rw [e]
  refine ⟨⟨⟨hok.sh, hok.gn, fun t => ?_⟩, ⟨_, hT, by show L.cs ≤ C + 1; omega, by show L.cg ≤ C + 1; omega, by show L.cn + 1 ≤ C + 1; omega⟩, by omega⟩, hfr.mono (fun k _ x => ?_)⟩
  · by_cases x : t = s
    · subst x
      simp only [if_true]
      have := (hok.lb t).2
      exact ⟨hq, by rw [List.length_append]; simp; omega⟩
    · simp only [if_neg x]
      exact ⟨(hok.lb t).1, by have := (hok.lb t).2; omega⟩
  · rcases x with rfl | ⟨V0, x1, x2⟩
    · exact h.pB.2.2.2
    · exact h.pL s V0 k x1 x2
set_option maxRecDepth 8000 in
set_option maxHeartbeats 1000000 in
theorem parrive_any {P : Nat → Prop} {w : World} {B C : Nat} {p : Pv} (h : Pst P w B p C) (s : ByteArray) (hs : s.size ≤ maxLen) (n q g z : Nat) (hq : q ≤ 1000000) (hC : C < 1000000000) :
    Calls Try.prog 29 #[.pointer (some ⟨B, 0, none⟩), .string s, .agg #[.int .i64 (n : Nat), .int .i64 (q : Nat), .int .i64 (g : Nat), .int .i64 (z : Nat)]] w fun e w' => e = .returned (.tuple #[]) ∧ PaTo P w B (p.arr s q n) (C + 1) w' := by
  obtain ⟨L, hL, hc⟩ := h.m
  obtain ⟨w1, hw1⟩ : ∃ w1, w.alloc (.cells #[.int .i64 (n : Nat), .int .i64 (q : Nat), .int .i64 (g : Nat), .int .i64 (z : Nat)] 52) = w1 := ⟨_, rfl⟩
  have k1 : Below w.heap.size w w1 := by rw [← hw1]; exact (Below.refl _ _).alloc (Nat.le_refl _) _
  obtain ⟨A5, hA5⟩ : ∃ A, w.heap.size = A := ⟨_, rfl⟩
  have hst : StatB w1 A5 (.int .i64 (n : Nat)) (.int .i64 (q : Nat)) (.int .i64 (g : Nat)) (.int .i64 (z : Nat)) := by rw [← hw1, ← hA5]; exact heap_alloc_new w _
  have HW1 : Hid (w.alloc (.cells #[.int .i64 (n : Nat), .int .i64 (q : Nat), .int .i64 (g : Nat), .int .i64 (z : Nat)] 52) = w1 ∧ w.heap.size = A5) := ⟨hw1, hA5⟩
  have hL1 := hL.later k1
  obtain ⟨_, _, c2⟩ := hL1.cells
  obtain ⟨V, hv, hV, hVg⟩ := hL.labAt s
  have hg := hL1.lbm.get lawS (mt := 75) (e := 83) (by kernel_rfl) (by kernel_rfl) (k := s) hs (keyS s hs)
  rw [hv] at hg
  obtain ⟨q0, hq0⟩ : ∃ q0, (p.lb s).1 = q0 := ⟨_, rfl⟩
  have hq0b : q0 ≤ 1000000 := by rw [← hq0]; exact (h.ok.lb s).1
  rw [hq0] at hg
  have hg : (Instr.lookup 75 (.map (some L.mn)) (.string s) false).run Try.prog w1 = .ok (.agg #[.int .i64 (q0 : Nat), V]) w1 := hg
  obtain ⟨w2, hw2⟩ : ∃ w2, w1.alloc (.cells #[.int .i64 (q0 : Nat), V] 83) = w2 := ⟨_, rfl⟩
  obtain ⟨A6, hA6⟩ : ∃ A, w1.heap.size = A := ⟨_, rfl⟩
  have k2' : Below w1.heap.size w1 w2 := by rw [← hw2]; exact (Below.refl _ _).alloc (Nat.le_refl _) _
  have k2 : Below w.heap.size w w2 := below_step k1 k2'
  have hlab : w2.heap[A6]? = some (.cells #[.int .i64 (q0 : Nat), V] 83 (0, 0)) := by rw [← hw2, ← hA6]; exact heap_alloc_new w1 _
  have HW2 : Hid (w1.alloc (.cells #[.int .i64 (q0 : Nat), V] 83) = w2 ∧ w1.heap.size = A6) := ⟨hw2, hA6⟩
  have st2 : StatB w2 A5 (.int .i64 (n : Nat)) (.int .i64 (q : Nat)) (.int .i64 (g : Nat)) (.int .i64 (z : Nat)) := (k2'.block A5 (Array.getElem?_eq_some_iff.1 hst).1).trans hst
  obtain ⟨s0, s1, s2, s3, _⟩ := st2.cells
  have l0 : w2.cell? ⟨A6, 0, none⟩ = some (.int .i64 (q0 : Nat)) := by simp [World.cell?, hlab]
  have l1 : w2.cell? ⟨A6, 1, none⟩ = some V := by simp [World.cell?, hlab]
  have b2 : w2.cell? ⟨B, 2, none⟩ = some (.map (some L.mn)) := (hL.later k2).cells.2.2
  obtain ⟨va, vc, rfl, _⟩ := hV.form
  by_cases hlt : q0 < q
  · have t1 : (q0 : Int) < (q : Int) := by omega
    have HK : Hid (∀ w' V', FrP (Xb (.slice va (p.lb s).2.length vc)) w2 w' → OwnI w' V' ((p.lb s).2 ++ [(n : Int)]) → (∀ g, V'.ownBlock = some g → (Value.slice va (p.lb s).2.length vc).ownBlock = some g ∨ w2.heap.size ≤ g) → ∃ u2, (Instr.mapUpdate 75 (.map (some L.mn)) (.string s) (labV q V')).run Try.prog w' = .ok () u2 ∧ PaTo P w B (p.arr s q n) (C + 1) u2) := fun w' V' hf ho hgg => by
      obtain ⟨es, cc, hmn⟩ := hL.lbm.isMap
      have hmw : MapB 9 kvS goodS labZ w' L.mn L.cn (lbF p L) := hL.lbm.same (by
        have hl := hL.low _ hL.pB.2.2.2
        rw [hf.block _ (Nat.lt_of_lt_of_le hl k2.size) (fun x => map_ty hmn (hVg _ x).2.2), k2.block _ hl])
      obtain ⟨u2, hrun, hm, hgr, _⟩ := hmw.put lawS (mt := 75) (e := 83) (by kernel_rfl) (by unfold maxLen; omega) (k := s) hs keyS kvS_inj (labV q V')
      exact ⟨u2, hrun, arr_end hL h.ok hc hC hq (by rw [hq0]; exact hlt) hVg k2 hf ho hgg hm hgr⟩
    have HR : Hid (OwnI w2 (.slice va (p.lb s).2.length vc) (p.lb s).2 ∧ ¬ Xb (.slice va (p.lb s).2.length vc) B ∧ ¬ Xb (.slice va (p.lb s).2.length vc) A5 ∧ ¬ Xb (.slice va (p.lb s).2.length vc) A6 ∧ (p.lb s).2.length ≤ 1000000000) := by
      refine ⟨hV.keep (fun b _ hl => k2.block b hl), fun x => ?_, fun x => ?_, fun x => ?_, ?_⟩
      · exact absurd (TyB.ne (hVg _ x).2.2 hL.tyB) (by decide)
      · have := hL.low _ (hVg _ x).2.1; omega
      · have := hL.low _ (hVg _ x).2.1; have := k1.size; omega
      · have := (h.ok.lb s).2; omega
    clear hL1 hL hV hVg hv hst st2 hlab k1 k2 k2' hw1 hw2 hA5 hA6 h hc hlt hq0
    go_enter Try.func29, Try.ntmps29
    go_upto_region 1 with fail
    rw [HW1.out.1, HW1.out.2]
    clear HW1
    go_upto_region 2 with fail
    rw [HW2.out.1, HW2.out.2]
    clear HW2 c2 hg
    go_upto_region 3 with fail
    refine regArr B A5 A6 L.mn s q n _ (p.lb s).2 (by kernel_rfl) rfl rfl rfl rfl rfl b2 s1 s0 l1 HR.out.2.1 HR.out.2.2.1 HR.out.2.2.2.1 HR.out.1 HR.out.2.2.2.2 ?_
    intro a' w' V' ha hf ho hgg
    obtain ⟨u2, hr, hp⟩ := HK.out w' V' hf ho hgg
    refine ⟨u2, hr, ?_⟩
    have HP : Hid (PaTo P w B (p.arr s q n) (C + 1) u2) := hp
    obtain ⟨tm, df⟩ := a'
    simp only at ha
    subst ha
    clear hr hp hf ho hgg
    first | go_end0 | (simp only [Exit.inBlock, Exit.then]; refine bodyPost_ret (results_none rfl _ _ _) rfl ?_) | refine bodyPost_ret (results_none rfl _ _ _) rfl ?_
    exact ⟨rfl, HP.out⟩
  · have t1 : ¬ (q0 : Int) < (q : Int) := by omega
    have HP : Hid (PaTo P w B (p.arr s q n) (C + 1) w2) := by
      have e : p.arr s q n = p := by unfold Pv.arr; rw [if_neg (by rw [hq0]; exact hlt)]
      rw [e]
      exact (h.up (Nat.le_succ C) (by omega)).to k2
    clear hL1 hL hV hVg hv hst st2 hlab k1 k2 k2' hw1 hw2 hA5 hA6 h hc hlt hq0
    go_enter Try.func29, Try.ntmps29
    go_upto_region 1 with fail
    rw [HW1.out.1, HW1.out.2]
    clear HW1
    go_upto_region 2 with fail
    rw [HW2.out.1, HW2.out.2]
    clear HW2 c2 hg
    go_wp2_with fail
    first | go_end0 | (simp only [Exit.inBlock, Exit.then]; refine bodyPost_ret (results_none rfl _ _ _) rfl ?_) | refine bodyPost_ret (results_none rfl _ _ _) rfl ?_
    exact ⟨rfl, HP.out⟩
end Go.Proofs.Ytobbcgendjakiaa
