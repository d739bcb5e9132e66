/- past: See. -/
import Derived.Test.YtobbcgendjakiaaG36
namespace Go.Proofs.Ytobbcgendjakiaa
open Go.RowKit Go.Maps Sf Go.Sort
attribute [local go_sem ↓] Go.wp_at_zero Go.wp_at_succ

theorem ba_back (s : ByteArray) : (⟨s.data.toList.toArray⟩ : ByteArray) = s := by cases s; simp
/-- a name that a disk tells -/
theorem name_of {d : Dk} {K : Nat} (h : Wf d K) {l : List UInt8} (hl : l ∈ nmL d) : ∃ n f, d.ino n = some f ∧ f.nm = ⟨l.toArray⟩ ∧ num d ⟨l.toArray⟩ = n ∧ err d ⟨l.toArray⟩ = 0 ∧ (⟨l.toArray⟩ : ByteArray).size ≤ 32 := by
  unfold nmL at hl
  rw [List.mem_mergeSort] at hl
  obtain ⟨n, hn, rfl⟩ := List.mem_map.1 hl
  have hs := (List.mem_filter.1 hn).2
  cases hf : d.ino n with
  | none => rw [hf] at hs; cases hs
  | some f =>
    have e : nmZ d ((n : Nat) : Int) = f.nm.data.toList := by
      unfold nmZ inoZ
      rw [if_pos (by omega), Int.toNat_natCast, hf]
    rw [e, ba_back]
    have hi := h.ino n f hf
    refine ⟨n, f, hf, rfl, hi.2.2.2.1, ?_, (may_size hi.2.2.1).2⟩
    unfold err
    rw [hi.2.2.1, if_pos rfl, hi.2.2.2.1, if_neg (by omega)]
/-- between two names -/
structure SeeI (P : Nat → Prop) (w1 : World) (B : Nat) (d : Dk) (p : Pv) (C : Nat) (j : Nat) (u : World) : Prop where
  m : ∃ Q, Pst Q u B (((nmL d).take j).foldl (fun p s => Pv.one d p ⟨s.toArray⟩) p) (C + 2 * j) ∧ ∀ k, Q k → P k ∨ w1.heap.size ≤ k
  fr : FrP P w1 u
theorem see_fold {d : Dk} {p : Pv} {j : Nat} {l : List UInt8} (h : (nmL d)[j]? = some l) : ((nmL d).take (j + 1)).foldl (fun p s => Pv.one d p ⟨s.toArray⟩) p = Pv.one d (((nmL d).take j).foldl (fun p s => Pv.one d p ⟨s.toArray⟩) p) ⟨l.toArray⟩ := by
  obtain ⟨hl, e⟩ := List.getElem?_eq_some_iff.1 h
  rw [List.take_succ_eq_append_getElem hl, List.foldl_append, e]
  rfl
theorem SeeI.next {P Q : Nat → Prop} {w1 u u2 u3 u4 : World} {B C j : Nat} {d : Dk} {p p3 p4 : Pv} (hfr : FrP P w1 u) (hQ : ∀ k, Q k → P k ∨ w1.heap.size ≤ k) (hb : Below u.heap.size u u2) (h3 : PaTo Q u2 B p3 (C + 2 * j + 1) u3) (h4 : PaTo (More Q u2 u3) u3 B p4 (C + 2 * j + 1 + 1) u4) (he : ((nmL d).take (j + 1)).foldl (fun p s => Pv.one d p ⟨s.toArray⟩) p = p4) : SeeI P w1 B d p C (j + 1) u4 := by
  have s0 := hfr.size
  have s1 := hb.size
  have s2 := h3.2.size
  have s3 := h4.2.size
  have f2 : FrP P w1 u2 := hfr.below hb
  have f3 : FrP P w1 u3 := f2.trans h3.2 (fun k hk x => by rcases hQ k x with y | y; exact y; omega)
  refine ⟨⟨_, by rw [he]; exact h4.1, fun k hk => ?_⟩, f3.trans h4.2 (fun k hk x => ?_)⟩
  · rcases hk with (hk | hk) | hk
    · exact hQ k hk
    · exact .inr (by omega)
    · exact .inr (by omega)
  · rcases x with x | x
    · rcases hQ k x with y | y
      · exact y
      · omega
    · omega
set_option maxRecDepth 8000 in
set_option maxHeartbeats 1000000 in
theorem see_any {P Pd : Nat → Prop} {w : World} {B C Bd K : Nat} {p : Pv} {d : Dk} (h : Pst P w B p C) (hd : Dsk Pd w Bd d K) (hap : ∀ k, P k → ¬ Pd k) (hC : C + 2 * (nmL d).length ≤ 1000000000) :
    Calls Try.prog 7 #[.pointer (some ⟨B, 0, none⟩), .pointer (some ⟨Bd, 0, none⟩)] w fun e w' => e = .returned (.tuple #[]) ∧ PaTo P w B (Pv.see d p) (C + 2 * (nmL d).length) w' := by
  have HC : Hid (Calls Try.prog 14 #[.pointer (some ⟨Bd, 0, none⟩)] w _) := names_any hd
  have HH : Hid (Pst P w B p C ∧ Dsk Pd w Bd d K ∧ ∀ k, P k → ¬ Pd k) := ⟨h, hd, hap⟩
  obtain ⟨N, hN⟩ : ∃ N, (nmL d).length = N := ⟨_, rfl⟩
  have HN : Hid ((nmL d).length = N) := hN
  have hN2 : N ≤ 1000001 := by
    have x := keysUp_len d
    have y := hd.wf.hi
    have z := hd.k
    rw [← hN]
    unfold nmL
    rw [List.length_mergeSort, List.length_map]
    omega
  rw [hN] at hC ⊢
  clear h hd hap hN
  go_enter Try.func7, Try.ntmps7
  go_wp2_with fail
  refine HC.out.mono ?_
  rintro e w1 ⟨V, rfl, rv, k1⟩
  rw [HN.out] at rv
  obtain ⟨va, vc, rfl⟩ := own_form rv
  have H0 : Hid (SeeI P w1 B d p C 0 w1) := ⟨⟨P, HH.out.1.later k1, fun k hk => .inl hk⟩, FrP.refl _ _⟩
  have HV : Hid (w1.ownsRow w.heap.size 9 1 (.slice va N vc) N ((nmL d).map encStr) ∧ Below w.heap.size w w1) := ⟨rv, k1⟩
  clear HC rv k1
  go_wp2_with fail
  go_loopw [11] (fun i u => ∃ j : Nat, i = .int .i64 (j : Nat) ∧ j ≤ N ∧ Hid (SeeI P w1 B d p C j u)) (fun i _ => N - (Go.RowKit.intOf i).toNat)
  case atStart => exact ⟨0, rfl, Nat.zero_le _, H0⟩
  case round =>
    obtain ⟨j, rfl, hj, HS⟩ := hrel
    clear H0
    by_cases hlt : j < N
    · have l1 : (j : Int) < (N : Int) := by omega
      obtain ⟨l, hl⟩ : ∃ l, (nmL d)[j]? = some l := ⟨_, List.getElem?_eq_getElem (by rw [HN.out]; exact hlt)⟩
      obtain ⟨n, f, hf, hnm, hnum, herr, hsz⟩ := name_of HH.out.2.1.wf (List.mem_of_getElem? hl)
      obtain ⟨s, hs⟩ : ∃ s : ByteArray, (⟨l.toArray⟩ : ByteArray) = s := ⟨_, rfl⟩
      rw [hs] at hnm hnum herr hsz
      obtain ⟨g1, rfl, hcell⟩ : ∃ g1, va = some ⟨g1, 0, none⟩ ∧ wr.cell? ⟨g1, j, none⟩ = some (.string s) := by
        have rv := HV.out.1
        have hwl := (owns_lat rv)
        rcases rv.2 with ⟨e, h0⟩ | ⟨g1, cap, cur, e, hb1, hg1, _⟩
        · omega
        · cases e
          refine ⟨g1, rfl, ?_⟩
          obtain ⟨a', c', e', _, _, h3⟩ := hwl
          cases e'
          rcases h3 with h3 | ⟨b', off, e2, hc⟩
          · have h4 : ((nmL d).map encStr).length = 0 := by rw [h3]; rfl
            omega
          · cases e2
            have hc2 := hc j (.string s) (by rw [List.getElem?_map, hl, ← hs]; rfl)
            rw [Nat.zero_add] at hc2
            refine cell_frp HS.out.fr (fun x => ?_) hc2
            have := HH.out.1.low _ x
            omega
      obtain ⟨Q, hQ, hQ2⟩ := HS.out.m
      have hser : ser d f.nm = ser d s := by rw [hnm]
      have hd2 : Dsk Pd wr Bd d K := (HH.out.2.1.later HV.out.2).keep (fun k hk => HS.out.fr.block k (Nat.lt_of_lt_of_le (HH.out.2.1.m.low k hk) HV.out.2.size) (fun x => HH.out.2.2 k x hk)) HS.out.fr.size
      have hap2 : ∀ k, Q k → ¬ Pd k := fun k hk x => by
        rcases hQ2 k hk with y | y
        · exact HH.out.2.2 k y x
        · have := HH.out.2.1.m.low k x
          have := HV.out.2.size
          omega
      obtain ⟨q, hq⟩ : ∃ q, ser d s = q := ⟨_, rfl⟩
      obtain ⟨g, hg⟩ : ∃ g, f.gen = g := ⟨_, rfl⟩
      obtain ⟨z, hz⟩ : ∃ z, f.bs.length = z := ⟨_, rfl⟩
      have hq2 : q ≤ 1000000 := by have := HH.out.2.1.wf.serLe s; have := HH.out.2.1.k; omega
      have HST : Hid (Calls Try.prog 15 #[.pointer (some ⟨Bd, 0, none⟩), .string s] wr (fun e w' => e = .returned (.tuple #[.agg #[.int .i64 (n : Nat), .int .i64 (q : Nat), .int .i64 (g : Nat), .int .i64 (z : Nat)], .int .i64 0]) ∧ Below wr.heap.size wr w')) := (stat_any hd2 s (by unfold maxLen; omega)).mono (fun e w' x => by
        rw [herr, if_pos rfl, hnum] at x
        unfold statOf at x
        rw [hf] at x
        simp only at x
        rw [hser, hq, hg, hz] at x
        exact x)
      have HF : Hid (Pst Q wr B (((nmL d).take j).foldl (fun p s => Pv.one d p ⟨s.toArray⟩) p) (C + 2 * j) ∧ (∀ k, Q k → P k ∨ w1.heap.size ≤ k) ∧ Dsk Pd wr Bd d K ∧ (∀ k, Q k → ¬ Pd k) ∧ d.ino n = some f ∧ f.gen = g ∧ f.bs.length = z ∧ num d s = n ∧ ser d s = q ∧ s.size ≤ 32 ∧ (⟨l.toArray⟩ : ByteArray) = s ∧ (nmL d)[j]? = some l) := ⟨hQ, hQ2, hd2, hap2, hf, hg, hz, hnum, hq, hsz, hs, hl⟩
      clear hQ hQ2 hd2 hap2 hf hg hz hnum hq hsz hs hl hnm herr hser
      go_upto_region 3 with fail
      clear hcell
      go_wp2_with fail
      refine HST.out.mono ?_
      rintro e u1 ⟨rfl, k1⟩
      obtain ⟨u2, hu2⟩ : ∃ u2, u1.alloc (.cells #[.int .i64 (n : Nat), .int .i64 (q : Nat), .int .i64 (g : Nat), .int .i64 (z : Nat)] 52) = u2 := ⟨_, rfl⟩
      obtain ⟨A, hA⟩ : ∃ A, u1.heap.size = A := ⟨_, rfl⟩
      have HU2 : Hid (u1.alloc (.cells #[.int .i64 (n : Nat), .int .i64 (q : Nat), .int .i64 (g : Nat), .int .i64 (z : Nat)] 52) = u2 ∧ u1.heap.size = A) := ⟨hu2, hA⟩
      have k2 : Below wr.heap.size wr u2 := below_step k1 (by rw [← hu2]; exact (Below.refl _ _).alloc (Nat.le_refl _) _)
      have hst : StatB u2 A (.int .i64 (n : Nat)) (.int .i64 (q : Nat)) (.int .i64 (g : Nat)) (.int .i64 (z : Nat)) := by rw [← hu2, ← hA]; exact heap_alloc_new u1 _
      have HB2 : Hid (Below wr.heap.size wr u2 ∧ StatB u2 A (.int .i64 (n : Nat)) (.int .i64 (q : Nat)) (.int .i64 (g : Nat)) (.int .i64 (z : Nat)) ∧ wr.heap.size ≤ A) := ⟨k2, hst, by rw [← hA]; exact k1.size⟩
      have HAR : Hid (Calls Try.prog 29 #[.pointer (some ⟨B, 0, none⟩), .string s, .agg #[.int .i64 (n : Nat), .int .i64 (q : Nat), .int .i64 (g : Nat), .int .i64 (z : Nat)]] u2 _) := parrive_any (HF.out.1.later k2) s (by have := HF.out.2.2.2.2.2.2.2.2.2.1; unfold maxLen; omega) n q g z hq2 (by omega)
      obtain ⟨c0, c1, c2, c3, _⟩ := hst.cells
      clear hu2 hA k1 k2 hst HST
      go_upto_region 4 with fail
      rw [HU2.out.1, HU2.out.2]
      clear HU2
      go_wp2_with fail
      refine HAR.out.mono ?_
      rintro e u3 ⟨rfl, h3⟩
      have hst3 : StatB u3 A (.int .i64 (n : Nat)) (.int .i64 (q : Nat)) (.int .i64 (g : Nat)) (.int .i64 (z : Nat)) := (h3.2.block A (Array.getElem?_eq_some_iff.1 HB2.out.2.1).1 (fun x => by have := HF.out.1.low A x; have := HB2.out.2.2; omega)).trans HB2.out.2.1
      have HGR : Hid (Calls Try.prog 30 #[.pointer (some ⟨B, 0, none⟩), .pointer (some ⟨Bd, 0, none⟩), .agg #[.int .i64 (n : Nat), .int .i64 (q : Nat), .int .i64 (g : Nat), .int .i64 (z : Nat)]] u3 fun e w' => e = .returned (.tuple #[]) ∧ PaTo (More Q u2 u3) u3 B ((Pv.arr (((nmL d).take j).foldl (fun p s => Pv.one d p ⟨s.toArray⟩) p) s q n).grow n f.gen f.bs) (C + 2 * j + 1 + 1) w') := by
        have hd3 : Dsk Pd u3 Bd d K := (HF.out.2.2.1.later HB2.out.1).keep (fun k hk => h3.2.block k (Nat.lt_of_lt_of_le (HF.out.2.2.1.m.low k hk) HB2.out.1.size) (fun x => HF.out.2.2.2.1 k x hk)) h3.2.size
        have x := pgrow_any h3.1 hd3 (fun k hk y => by
          rcases hk with hk | hk
          · exact HF.out.2.2.2.1 k hk y
          · have := HF.out.2.2.1.m.low k y
            have := HB2.out.1.size
            omega) HF.out.2.2.2.2.1 q (by omega)
        rw [HF.out.2.2.2.2.2.1, HF.out.2.2.2.2.2.2.1] at x
        rw [HF.out.2.2.2.2.2.1]
        exact x
      have HP3 : Hid (PaTo Q u2 B (Pv.arr (((nmL d).take j).foldl (fun p s => Pv.one d p ⟨s.toArray⟩) p) s q n) (C + 2 * j + 1) u3) := h3
      obtain ⟨e0, e1, e2, e3, _⟩ := hst3.cells
      clear HAR h3 hst3 c0 c1 c2 c3
      go_wp2_with fail
      refine HGR.out.mono ?_
      rintro e u4 ⟨rfl, h4⟩
      have HS4 : Hid (SeeI P w1 B d p C (j + 1) u4) := SeeI.next HS.out.fr HF.out.2.1 HB2.out.1 HP3.out h4 (by
        rw [see_fold HF.out.2.2.2.2.2.2.2.2.2.2.2, HF.out.2.2.2.2.2.2.2.2.2.2.1]
        unfold Pv.one
        rw [HF.out.2.2.2.2.2.2.2.1, HF.out.2.2.2.2.1, HF.out.2.2.2.2.2.2.2.2.1])
      clear HGR h4 e0 e1 e2 e3 HP3 HB2 HF
      go_wp2_with fail
      go_roundw
      case rel => exact ⟨j + 1, by go_num, by omega, HS4⟩
      case measure => simp [Go.RowKit.intOf]; omega
    · have l1 : ¬ (j : Int) < (N : Int) := by omega
      have HE : Hid (PaTo P w B (Pv.see d p) (C + 2 * N) wr) := by
        obtain ⟨Q, hQ, hQ2⟩ := HS.out.m
        have hjN : j = N := by omega
        subst hjN
        have e : ((nmL d).take j).foldl (fun p s => Pv.one d p ⟨s.toArray⟩) p = Pv.see d p := by
          unfold Pv.see
          rw [← HN.out, List.take_length]
        rw [e] at hQ
        obtain ⟨L, hL, hc⟩ := hQ.m
        have s1 := HV.out.2.size
        have s2 := HS.out.fr.size
        refine ⟨⟨hQ.ok, ⟨L, hL.mono (fun k hk => ?_) (fun k hk => ?_), hc⟩, hQ.c⟩, (FrP.of_below P HV.out.2).trans HS.out.fr (fun _ _ x => x)⟩
        · rcases hQ2 k hk with y | y
          · exact .inl y
          · exact .inr ⟨by omega, hL.low k hk⟩
        · rcases hk with hk | hk
          · have := HH.out.1.low k hk; omega
          · exact hk.2
      go_wp2_with fail
      first | go_end0 | (simp only [Exit.inBlock, Exit.then]; refine bodyPost_ret (results_none rfl _ _ _) rfl ?_) | refine bodyPost_ret (results_none rfl _ _ _) rfl ?_
      exact ⟨rfl, HE.out⟩
end Go.Proofs.Ytobbcgendjakiaa
