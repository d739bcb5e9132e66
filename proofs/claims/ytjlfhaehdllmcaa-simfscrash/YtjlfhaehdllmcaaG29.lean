/- simfs: Copy. -/
import Derived.Test.YtjlfhaehdllmcaaG28
namespace Go.Proofs.Ytjlfhaehdllmcaa
open Go.RowKit Go.Maps Sf
attribute [local go_sem ↓] Go.wp_at_zero Go.wp_at_succ

def CopyPost (w : World) (d : Dk) (K : Nat) (e : Ending) (w' : World) : Prop := ∃ B2 P2, e = .returned (.pointer (some ⟨B2, 0, none⟩)) ∧ Dsk P2 w' B2 d K ∧ (∀ k, P2 k → w.heap.size ≤ k) ∧ Below w.heap.size w w'
theorem cpL_step {d : Dk} {left : Lit → Bool} {s : ByteArray} {q : Nat × Nat} (hq : d.lab s = some q) : Sf.putL (cpL d left) s q.1 q.2 = cpL d (fun z => left z && !z.sameKey (.string s.data.toList)) := by
  unfold Sf.putL cpL
  congr 1
  funext t
  by_cases e : t = s
  · subst e
    simp [Lit.sameKey, hq]
  · have hne : ¬ t.data = s.data := fun x => e (by cases t; cases s; simp_all)
    simp [Lit.sameKey, e, hne]
theorem cpn_start {P2 : Nat → Prop} {w w3 w4 w5 : World} {B2 Bo N2 : Nat} {d : Dk} {L L4 : Lay} {D : DataW Value} (h4 : DkAt (More P2 w3 w4) w4 B2 ⟨d.hi, d.ino, fun _ => none⟩ L4 ∧ L4.mn = N2 ∧ L4.ci ≤ L.ci ∧ L4.cn = 0) (hI : BoxAt w4 Bo (.pointer (some ⟨B2, 0, none⟩)) 24 ∧ Below w.heap.size w w4 ∧ w3.heap.size ≤ w4.heap.size)
    (hDF : ∀ k, goodS k → Maps.has D (klit 9 kvS k) = (L.lab d k).isSome ∧ D.atKey (klit 9 kvS k) (.held (.pointer none)) = .held ((L.lab d k).getD (.pointer none))) (hD : w4.ownsMap Try.prog 9 rawR L.mn L.cn D) (hlab : ∀ s q, d.lab s = some q → goodS s) (hrg : w5.ranges Try.prog 9 rawR L.mn w4.heap.size L.cn D (Maps.has D) (Maps.size D)) (hg5 : w4.grownBy w5 none) (hs5 : w5.heap.size = w4.heap.size + 1) : CpN w w3 P2 B2 Bo N2 w4.heap.size d L D w5 (Maps.has D) (Maps.size D) := by
  have k5 : Below w4.heap.size w4 w5 := (Below.refl _ _).grown hg5 (Nat.le_refl _) (fun k hk => by cases hk)
  have e : cpL d (Maps.has D) = ⟨d.hi, d.ino, fun _ => none⟩ := by
    unfold cpL
    congr 1
    funext s
    cases hl : d.lab s with
    | none => simp
    | some q =>
      have hgs := hlab s q hl
      have h1 := (hDF s hgs).1
      rw [klitS hgs] at h1
      rw [h1]
      unfold Lay.lab
      rw [hl]
      rfl
  refine ⟨hrg, ⟨L4, ?_, h4.2.1, h4.2.2.1, by have := size_le hD; omega⟩, hI.1.later k5, below_step hI.2.1 k5, by omega, hI.2.2⟩
  rw [e]
  refine (h4.1.later k5).mono (fun k hk => ⟨?_, fun x => ?_⟩) (fun k hk => ?_)
  · rcases hk with hk | hk
    · exact .inl hk
    · exact .inr ⟨hk.1, by omega⟩
  · have := h4.1.low k hk; omega
  · rcases hk.1 with x | x
    · have := h4.1.low k (.inl x); omega
    · exact x.2
/-- a name more -/
theorem cpn_step {P : Nat → Prop} {w w3 : World} {P2 : Nat → Prop} {B B2 Bo N2 r cnt cnt' : Nat} {d : Dk} {L : Lay} {D : DataW Value} {u u' : World} {left : Lit → Bool} {s : ByteArray} {q : Nat × Nat} (hL : DkAt P w B d L) (hc : L.cn ≤ 1000000) (h : CpN w w3 P2 B2 Bo N2 r d L D u left cnt) (hN : N2 < w3.heap.size ∧ w.heap.size ≤ N2 ∧ w.heap.size ≤ w3.heap.size ∧ Bo < w3.heap.size)
    (hq : d.lab s = some q) (hs : goodS s) (hlk : left (.string s.data.toList) = true) (hrg : u'.ranges Try.prog 9 rawR L.mn r L.cn D (fun z => left z && !z.sameKey (.string s.data.toList)) cnt') (hlt : cnt' < cnt) (hgr : u.grownBy u' (some r)) :
    ∃ u3, (Instr.mapUpdate 56 (.map (some N2)) (.string s) (.pointer (some ⟨u'.heap.size, 0, none⟩))).run Try.prog (u'.alloc (.cells (labC q) 72)) = .ok () u3 ∧ CpN w w3 P2 B2 Bo N2 r d L D u3 (fun z => left z && !z.sameKey (.string s.data.toList)) cnt' ∧ BoxAt (u'.alloc (.cells (labC q) 72)) Bo (.pointer (some ⟨B2, 0, none⟩)) 24 ∧ (u'.alloc (.cells (labC q) 72)).cell? ⟨B2, 2, none⟩ = some (.map (some N2)) := by
  obtain ⟨L2, h2, e1, e2, e3⟩ := h.ot
  have hrl := hrg.lt
  have hr3 := h.rl
  have h2' : DkAt (fun k => More P2 w3 u k ∧ k ≠ r) u' B2 (cpL d left) L2 := h2.keep (fun k hk => hgr.block k (h2.low k hk) (fun e => hk.2 (by cases e; rfl))) hgr.size
  obtain ⟨u2, hu2⟩ : ∃ u2, u'.alloc (.cells (labC q) 72) = u2 := ⟨_, rfl⟩
  rw [hu2]
  have k2 : Below u'.heap.size u' u2 := by rw [← hu2]; exact (Below.refl _ _).alloc (Nat.le_refl _) _
  have lA : LabAt u2 u'.heap.size q := by rw [← hu2]; exact heap_alloc_new u' _
  have h2'' := h2'.later k2
  obtain ⟨u3, hrun, hm3, hg3, hs3⟩ := h2''.nm.put lawS (mt := 56) (e := 70) (by kernel_rfl) (by unfold maxLen; omega) (k := s) hs keyS kvS_inj (.pointer (some ⟨u'.heap.size, 0, none⟩))
  rw [e1] at hrun hg3
  have hmA : u'.heap.size ≠ N2 := by have := h.sz; have := hgr.size; omega
  have lA3 : LabAt u3 u'.heap.size q := (hg3.block _ lA.lt (fun e => hmA (by cases e; rfl))).trans lA
  have hfr3 : FrP (fun k => k = L2.mn) u' u3 := (FrP.of_below (fun k => k = L2.mn) k2).grown hg3 (fun k _ e => by cases e; exact e1.symm)
  have hnone : (cpL d left).lab s = none := by unfold cpL; simp only; rw [if_pos hlk]
  have h3 := h2'.addL (s := s) (q := q) (a := u'.heap.size) hnone lA3 (Nat.le_refl _) hm3 hfr3
  rw [cpL_step hq] at h3
  have z1 := h.sz
  have z2 := hgr.size
  have z3 := hfr3.size
  have h3' : DkAt (fun k => More P2 w3 u3 k ∧ k ≠ r) u3 B2 (cpL d (fun z => left z && !z.sameKey (.string s.data.toList))) { L2 with cn := L2.cn + 1, an := fun t => if t = s then u'.heap.size else L2.an t } := h3.mono (fun k hk => by
    rcases hk with ⟨hk | hk, hr⟩ | hk
    · exact ⟨.inl hk, hr⟩
    · exact ⟨.inr ⟨hk.1, by omega⟩, hr⟩
    · exact ⟨.inr ⟨by omega, hk.2⟩, by omega⟩) (fun k hk => by
    rcases hk.1 with hx | hx
    · have := h2.low k
      by_cases hkr : k = r
      · exact absurd hkr hk.2
      · have := h2.low k ⟨.inl hx, hkr⟩; omega
    · exact hx.2)
  have hmn : L.mn < w.heap.size := hL.low _ hL.pB.2.2
  have hNr : N2 ≠ r := by omega
  have hkeep : ∀ k, k < u.heap.size → k ≠ r → k ≠ N2 → u3.heap[k]? = u.heap[k]? := fun k hk h1 h2 => (hfr3.block k (by omega) (fun x => h2 (x.trans e1))).trans (hgr.block k hk (fun e => h1 (by cases e; rfl)))
  have hoN : Bo ≠ N2 := fun x => by
    obtain ⟨es, c, hm⟩ := h2.nm.isMap
    rw [e1, ← x] at hm
    exact map_ty hm ⟨_, _, h.bo⟩
  have hbo' : u'.heap[Bo]? = u.heap[Bo]? := hgr.block Bo h.bo.lt (fun e => by have : Bo = r := Option.some.inj e; omega)
  have hmN : L.mn ≠ N2 := by omega
  have hrg2 : u2.ranges Try.prog 9 rawR L.mn r L.cn D (fun z => left z && !z.sameKey (.string s.data.toList)) cnt' := by rw [← hu2]; exact hrg.alloc _
  have hrg3 := hrg2.kept hg3 (fun e => hmN (Option.some.inj e)) (fun e => hNr (Option.some.inj e).symm)
  refine ⟨u3, hrun, ⟨hrg3, ⟨_, h3', e1, e2, by show L2.cn + 1 + cnt' ≤ L.cn; omega⟩, (hkeep Bo h.bo.lt (by omega) hoN).trans h.bo, ?_, by omega, hr3⟩, (k2.block Bo (by have := h.bo.lt; omega)).trans (hbo'.trans h.bo), ?_⟩
  · exact ⟨hfr3.os.trans (hgr.os.trans h.lo.os), hfr3.tape.trans (hgr.tape.trans h.lo.tape), hfr3.output.trans (hgr.output.trans h.lo.output), by have := h.lo.size; omega, fun k hk => (hkeep k (by have := h.lo.size; omega) (by omega) (by omega)).trans (h.lo.block k hk)⟩
  · rw [← e1]; exact h2''.cells.2.2
set_option maxRecDepth 8000 in
set_option maxHeartbeats 1000000 in
theorem copy_any {P : Nat → Prop} {w : World} {B K : Nat} {d : Dk} (h : Dsk P w B d K) :
    Calls Try.prog 12 #[.pointer (some ⟨B, 0, none⟩)] w (CopyPost w d K) := by
  obtain ⟨L, hL, hc⟩ := h.m
  have HNE := new_any w
  have HNE : Hid (Calls Try.prog 6 #[] w _) := HNE
  have HL : Hid (DkAt P w B d L ∧ (L.ci ≤ K ∧ L.cn ≤ K) ∧ Wf d K ∧ K ≤ 1000000) := ⟨hL, hc, h.wf, h.k⟩
  obtain ⟨hi, hhi⟩ : ∃ hi, d.hi = hi := ⟨_, rfl⟩
  have HHI : Hid (d.hi = hi) := hhi
  have hmf : ∀ (fn : Fn) (first cap : Array Value) (w : World), (Instr.makeFunc fn first cap).run Try.prog w = .ok (.func fn first cap) w := fun _ _ _ _ => rfl
  clear h hL hc hhi
  go_enter Try.func12, Try.ntmps12
  go_wp2_with fail
  refine HNE.out.mono ?_
  rintro e w1 ⟨B2, P2, rfl, hd1, hp1, k1⟩
  obtain ⟨L2, hL2, hc2⟩ := hd1.m
  obtain ⟨Bo, hBo⟩ : ∃ Bo, w1.heap.size = Bo := ⟨_, rfl⟩
  obtain ⟨w2, hw2⟩ : ∃ w2, w1.alloc (.cells #[.pointer (some ⟨B2, 0, none⟩)] 24) = w2 := ⟨_, rfl⟩
  have k2 : Below w1.heap.size w1 w2 := by rw [← hw2]; exact (Below.refl _ _).alloc (Nat.le_refl _) _
  have bo2 : BoxAt w2 Bo (.pointer (some ⟨B2, 0, none⟩)) 24 := by rw [← hw2, ← hBo]; exact heap_alloc_new w1 _
  have k12 := below_step k1 k2
  have h2 := hL2.later k2
  obtain ⟨x0, x1, x2⟩ := h2.cells
  have qx := h2.frozen 0
  obtain ⟨b0, b1⟩ := bo2.cell
  obtain ⟨c0, c1, c2⟩ := (HL.out.1.later k12).cells
  rw [HHI.out] at c0
  obtain ⟨w3, hw3⟩ : ∃ w3, (w2.setCell ⟨B2, 0, none⟩ (.int .i64 (hi : Nat))).drew = w3 := ⟨_, rfl⟩
  have hwB : w.heap.size ≤ B2 := hp1 B2 hL2.pB.1
  have hBB : B2 ≠ Bo := by have := hL2.low B2 hL2.pB.1; omega
  have k3 : Below w.heap.size w w3 := by
    have := below_set k12 hwB 0 (.int .i64 (hi : Nat))
    rw [← hw3]
    exact ⟨this.os, this.tape, this.output, this.size, this.block⟩
  have h3 : DkAt P2 w3 B2 ⟨d.hi, Sf.new.ino, Sf.new.lab⟩ L2 := by rw [← hw3, HHI.out]; exact (h2.hiTo hi).drew
  have bo3 : BoxAt w3 Bo (.pointer (some ⟨B2, 0, none⟩)) 24 := by
    rw [← hw3]
    exact (Below.heap_setCell w2 ⟨B2, 0, none⟩ _ Bo (fun e => hBB e.symm)).trans bo2
  have HW3 : Hid ((w2.setCell ⟨B2, 0, none⟩ (.int .i64 (hi : Nat))).drew = w3) := hw3
  have HW2 : Hid (w1.alloc (.cells #[.pointer (some ⟨B2, 0, none⟩)] 24) = w2 ∧ w1.heap.size = Bo) := ⟨hw2, hBo⟩
  have HK3 : Hid (Below w.heap.size w w3) := k3
  have H3 : Hid (DkAt P2 w3 B2 ⟨d.hi, Sf.new.ino, Sf.new.lab⟩ L2 ∧ L2.ci ≤ 0 ∧ L2.cn ≤ 0 ∧ (∀ k, P2 k → w.heap.size ≤ k)) := ⟨h3, hc2.1, hc2.2, hp1⟩
  have HBO : Hid (BoxAt w3 Bo (.pointer (some ⟨B2, 0, none⟩)) 24) := bo3
  clear hd1 hp1 k1 hL2 hc2 hw2 hBo k2 bo2 k12 h2 hw3 hwB k3 h3 bo3
  go_upto_region 2 with fail
  rw [HW2.out.1, HW2.out.2]
  clear HW2 HNE
  go_region
  rw [HW3.out]
  clear HW3 x0 x1 x2 qx b0 b1 c0 c1 c2
  obtain ⟨b0, b1⟩ := HBO.out.cell
  have HRI := rising_copy (B := B) HL.out.2.2.1 HL.out.2.2.2 (HL.out.1.later HK3.out) Bo (fun i u => CpI w w3 P2 B2 Bo L2.mi L2.mn d i u)
    (fun u hu => ⟨⟨L2, ?_, rfl, rfl, H3.out.2.1, by have := H3.out.2.2.1; omega⟩, HBO.out.later hu, below_step HK3.out hu, hu.size, Nat.zero_le _⟩) (fun i n u hn hI => ?_) (fun i n u hn hI _ => cpi_step HL.out.2.2.1 HL.out.2.2.2 HL.out.1 ⟨H3.out.1.low _ H3.out.1.pB.2.1, H3.out.2.2.2 _ H3.out.1.pB.2.1, HBO.out.lt⟩ H3.out.1.low hn hI)
  rotate_left
  · have e0 : cpI d 0 = ⟨d.hi, Sf.new.ino, Sf.new.lab⟩ := by unfold cpI Sf.new; simp
    rw [e0]
    exact H3.out.1.more hu
  · obtain ⟨f, hf⟩ := Option.isSome_iff_exists.1 (keysUp_mem.1 (List.mem_of_getElem? hn)).2
    have hu := HL.out.1.later hI.lo
    have hlk := hu.looki (z := (n : Nat)) (by have := (HL.out.2.2.1.ino n f hf).2.1; have := HL.out.2.2.1.hi; have := HL.out.2.2.2; unfold goodI; omega)
    rw [Lay.inoZ] at hlk
    have e3 : (inoZ d ((n : Nat) : Int)).isSome = true := by unfold inoZ; rw [if_pos (by omega), Int.toNat_natCast, hf]; rfl
    rw [e3, if_pos rfl, Int.toNat_natCast] at hlk
    exact ⟨hu.cells.2.1, hlk⟩
  have HRI : Hid (Calls Try.prog 28 #[.pointer (some ⟨B, 0, none⟩), .func (.func 29) #[] #[.pointer (some ⟨Bo, 0, none⟩)]] w3 _) := HRI
  go_wp2_with fail
  refine HRI.out.mono ?_
  rintro e w4 ⟨rfl, hI⟩
  have hL4 := HL.out.1.later hI.lo
  obtain ⟨L4, h4, m1, m2, m3, m4⟩ := hI.ot
  rw [cpI_all HL.out.2.2.1] at h4
  have hci : (keysUp d).length ≤ L.ci := by
    obtain ⟨Di, hDi, hDm, hDF⟩ := HL.out.1.im
    have e2 := (keys_perm (L := L) HL.out.2.2.1 HL.out.2.2.2 hDi (fun k hk => (hDF k hk).1)).length_eq
    rw [List.length_map] at e2
    have e1 : Maps.size Di = (intKeys Di).length := by obtain ⟨es, rfl⟩ := hDm; simp [Maps.size, intKeys]
    have := size_le hDi
    omega
  obtain ⟨D, hD, hDm, hDF⟩ := hL4.nm
  have HD : Hid (w4.ownsMap Try.prog 9 rawR L.mn L.cn D) := hD
  have HDF : Hid (∀ k, goodS k → Maps.has D (klit 9 kvS k) = (L.lab d k).isSome ∧ D.atKey (klit 9 kvS k) (.held (.pointer none)) = .held ((L.lab d k).getD (.pointer none))) := hDF
  have H4 : Hid (DkAt (More P2 w3 w4) w4 B2 ⟨d.hi, d.ino, fun _ => none⟩ L4 ∧ L4.mn = L2.mn ∧ L4.ci ≤ L.ci ∧ L4.cn = 0) := ⟨h4, m2, by omega, m4⟩
  have HI4 : Hid (BoxAt w4 Bo (.pointer (some ⟨B2, 0, none⟩)) 24 ∧ Below w.heap.size w w4 ∧ w3.heap.size ≤ w4.heap.size) := ⟨hI.bo, hI.lo, hI.sz⟩
  have HNN : Hid (L2.mn < w3.heap.size ∧ w.heap.size ≤ L2.mn ∧ w.heap.size ≤ w3.heap.size ∧ Bo < w3.heap.size) := ⟨H3.out.1.low _ H3.out.1.pB.2.2, H3.out.2.2.2 _ H3.out.1.pB.2.2, HK3.out.size, HBO.out.lt⟩
  obtain ⟨c0, c1, c2⟩ := hL4.cells
  have HLA : Hid (∀ s q, d.lab s = some q → goodS s) := fun s q hq => by have := (may_size (HL.out.2.2.1.lab s q.1 q.2 hq).1).2; unfold goodS maxLen; omega
  clear hI hL4 h4 m1 m2 m3 m4 hci hD hDm hDF HRI b0 b1
  go_wp2_with (first
    | (at_range; refine wpList_range_own _ rfl _ 56 rfl 9 70 lawS (by kernel_rfl) rawR L.mn L.cn D rfl HD.out ?_; intro w5 hrg hg5 hs5; have HR5 : Hid (CpN w w3 P2 B2 Bo L2.mn w4.heap.size d L D w5 (Maps.has D) (Maps.size D)) := cpn_start H4.out HI4.out HDF.out HD.out HLA.out hrg hg5 hs5; clear hrg hg5 hs5 c0 c1 c2)
    | fail)
  go_frame
  obtain ⟨r, hr⟩ : ∃ r, w4.heap.size = r := ⟨_, rfl⟩
  rw [hr] at HR5 ⊢
  clear hr HD
  go_loopw [23] (fun _ u => ∃ left cnt, Hid (CpN w w3 P2 B2 Bo L2.mn r d L D u left cnt)) (fun _ u => u.rangeLeft L.mn r)
  case atStart => exact ⟨_, _, HR5⟩
  case round =>
    obtain ⟨left, cnt, HN⟩ := hrel
    clear HR5
    rcases HN.out.rg.next lawS 0 with ⟨hcnt, hl0, hrun⟩ | ⟨key, v', kl, y, w', cnt', hkey, hlk, hv, hat, hrun, hrg, hlt, hgr, hsz', hen⟩
    · obtain ⟨b0, b1⟩ := HN.out.bo.cell
      have HE : Hid (CopyPost w d K (.returned (.pointer (some ⟨B2, 0, none⟩))) wr) := by
        obtain ⟨Lf, h1, h2, h3, h4⟩ := HN.out.ot
        refine ⟨B2, fun k => More P2 w3 wr k ∧ k ≠ r, rfl, ⟨HL.out.2.2.1, ⟨Lf, ?_, by have := HL.out.2.1; omega, by have := HL.out.2.1; omega⟩, HL.out.2.2.2⟩, ?_, HN.out.lo⟩
        · have e : cpL d left = d := by
            unfold cpL
            cases d
            congr 1
            funext s
            rw [hl0]
            rfl
          rw [e] at h1
          exact h1
        · intro k hk
          rcases hk.1 with x | x
          · exact H3.out.2.2.2 k x
          · have := HK3.out.size; omega
      clear HN hcnt hl0
      go_wp2
      go_ret
      exact HE.out
    · obtain ⟨x, rfl, rfl, hwx⟩ := Maps.keyOf_str Try.underlying9 hkey
      obtain ⟨s, rfl⟩ : ∃ s : ByteArray, x = s.data.toList := ⟨⟨x.toArray⟩, by simp⟩
      have hgs : goodS s := by unfold goodS; rw [Array.length_toList] at hwx; exact hwx
      obtain ⟨rfl⟩ : y = (.held v', []) := by unfold rawR at hv; cases hv; rfl
      obtain ⟨hF1, hF2⟩ := HDF.out s hgs
      rw [klitS hgs] at hF1 hF2
      have hhas : Maps.has D (.string s.data.toList) = true := has_true_of_atKey hat
      rw [hhas] at hF1
      rw [hat] at hF2
      have hv2 : v' = (L.lab d s).getD (.pointer none) := by injection hF2
      obtain ⟨q, hq⟩ : ∃ q, d.lab s = some q := by
        unfold Lay.lab at hF1
        rw [Option.isSome_map] at hF1
        exact Option.isSome_iff_exists.1 hF1.symm
      have hv3 : v' = .pointer (some ⟨L.an s, 0, none⟩) := by rw [hv2]; unfold Lay.lab; rw [hq]; rfl
      subst hv3
      obtain ⟨u3, hup, hN3, hbo, hcB⟩ := cpn_step HL.out.1 (by have := HL.out.2; omega) HN.out HNN.out hq hgs hlk hrg hlt hgr
      have lo' : Below w.heap.size w w' := HN.out.lo.grown hgr HN.out.lo.size (fun k hk => by cases hk; have := HN.out.rl; have := HK3.out.size; omega)
      obtain ⟨l0, l1⟩ := ((HL.out.1.later lo').lb s q hq).cells
      have HLE : Hid (wr.rangeLeft L.mn r = cnt ∧ cnt' < cnt) := ⟨HN.out.rg.left_eq, hlt⟩
      have HN3 : Hid (CpN w w3 P2 B2 Bo L2.mn r d L D u3 (fun z => left z && !z.sameKey (.string s.data.toList)) cnt') := hN3
      obtain ⟨b0, b1⟩ := hbo.cell
      have hs1 : encStr s.data.toList = .string s := by simp [encStr]
      rw [hs1] at hrun hen
      unfold labC at hup b0 b1 hcB
      clear HN hkey hlk hv hat hlt hgr hsz' hrg hF1 hF2 hhas hv2 lo' hN3 hbo hq hgs hwx hs1
      go_wp2
      go_roundw
      case rel => exact ⟨_, _, HN3⟩
      case measure => rw [HN3.out.rg.left_eq, HLE.out.1]; exact HLE.out.2
end Go.Proofs.Ytjlfhaehdllmcaa
