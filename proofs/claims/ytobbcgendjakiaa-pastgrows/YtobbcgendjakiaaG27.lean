/- simfs: Names. -/
import Derived.Test.YtobbcgendjakiaaG26
import Derived.Maps.RangeWalk
namespace Go.Proofs.Ytobbcgendjakiaa
open Go.RowKit Go.Maps Sf Go.Sort
attribute [local go_sem ↓] Go.wp_at_zero Go.wp_at_succ

theorem infS : (Try.prog.info? 9).map (fun i => (i.zero, i.size, i.bytes)) = some (some (.string ⟨#[]⟩), 1, 16) := by kernel_rfl
def nmZ (d : Dk) (z : Int) : List UInt8 := match inoZ d z with
  | some f => f.nm.data.toList
  | none => []
/-- the names that there are, in the order of their bytes -/
def nmL (d : Dk) : List (List UInt8) := ((keysUp d).map fun n => nmZ d ((n : Nat) : Int)).mergeSort fun x y => decide (x ≤ y)
theorem encStr_nm {d : Dk} {z : Int} {f : Ino} (h : inoZ d z = some f) : encStr (nmZ d z) = .string f.nm := by
  unfold nmZ
  rw [h]
/-- between two rounds of Names' loop -/
structure NmI (w : World) (d : Dk) (L : Lay) (D : DataW Value) (r : Nat) (v : Value) (u : World) (left : Lit → Bool) (cnt : Nat) (ss : List Int) : Prop where
  rg : u.ranges Try.prog 3 rawR L.mi r L.ci D left cnt
  co : CollectedI D left ss
  ow : u.ownsRow w.heap.size 9 1 v ss.length (ss.map fun z => encStr (nmZ d z))
  lo : Below w.heap.size w u
  nn : v ≠ .slice none 0 0
  rl : w.heap.size ≤ r
  ct : ss.length + cnt ≤ Maps.size D
theorem iter_ne {w : World} {d : Dk} {L : Lay} {D : DataW Value} {r : Nat} {v : Value} {u : World} {left : Lit → Bool} {cnt : Nat} {ss : List Int} (h : NmI w d L D r v u left cnt ss) : some r ≠ v.ownBlock := fun e => by
  obtain ⟨es, clock, since, seen, c0, _, _, _, _, hr, _⟩ := h.rg
  rcases h.ow.2 with ⟨rfl, _⟩ | ⟨g, cap, cur, rfl, _, hg, _⟩
  · cases e
  · have : r = g := by injection e
    subst this
    rw [hr] at hg
    cases hg
theorem nm_step {w : World} {d : Dk} {L : Lay} {D : DataW Value} {r cnt cnt' S : Nat} {v V5 : Value} {w' w5 : World} {left : Lit → Bool} {ss : List Int} {x : Int} {f : Ino} (how : w'.ownsRow w.heap.size 9 1 v ss.length (ss.map fun z => encStr (nmZ d z))) (hrg : w'.ranges Try.prog 3 rawR L.mi r L.ci D left cnt') (hlo : Below w.heap.size w w') (hco : CollectedI D left (ss ++ [x])) (hnn : v ≠ .slice none 0 0 ∧ w.heap.size ≤ r ∧ ss.length + cnt ≤ S ∧ cnt' < cnt) (hne : some r ≠ v.ownBlock ∧ some L.mi ≠ v.ownBlock) (hen : encStr (nmZ d x) = .string f.nm) (hS : Maps.size D = S)
    (ho : w5.ownsRow w.heap.size 9 1 V5 (ss.length + [Value.string f.nm].length) ((ss.map fun z => encStr (nmZ d z)) ++ [.string f.nm])) (hg : (w'.alloc (.cells #[.string f.nm] 9)).grownBy w5 v.ownBlock) (hn : V5 = .slice none 0 0 ↔ v = .slice none 0 0 ∧ [Value.string f.nm].length = 0) : NmI w d L D r V5 w5 left cnt' (ss ++ [x]) := by
  have ka : Below w'.heap.size w' (w'.alloc (.cells #[.string f.nm] 9)) := (Below.refl _ _).alloc (Nat.le_refl _) _
  refine ⟨(hrg.alloc _).kept hg hne.2 hne.1, hco, ?_, ?_, fun e => by have := (hn.1 e).2; simp at this, hnn.2.1, by rw [hS, List.length_append]; simp; omega⟩
  · rw [List.length_append, List.map_append]
    simp only [List.map_cons, List.map_nil, hen]
    exact ho
  · refine (below_step hlo ka).grown hg (below_step hlo ka).size (fun k hk => ?_)
    rcases how.2 with ⟨rfl, _⟩ | ⟨g, cap, cur, rfl, hb, _⟩
    · cases hk
    · have : g = k := by injection hk
      omega
set_option maxRecDepth 8000 in
set_option maxHeartbeats 1000000 in
theorem names_any {P : Nat → Prop} {w : World} {B K : Nat} {d : Dk} (h : Dsk P w B d K) :
    Calls Try.prog 14 #[.pointer (some ⟨B, 0, none⟩)] w fun e w' => ∃ V, e = .returned V ∧ w'.ownsRow w.heap.size 9 1 V (nmL d).length ((nmL d).map encStr) ∧ Below w.heap.size w w' := by
  obtain ⟨L, hL, hc⟩ := h.m
  obtain ⟨c0, c1, c2⟩ := hL.cells
  obtain ⟨D, hD, hDm, hDF⟩ := hL.im
  have hperm := keys_perm (L := L) h.wf h.k hD (fun k hk => (hDF k hk).1)
  have hsz : Maps.size D ≤ 1000001 := by
    have e1 : Maps.size D = (intKeys D).length := by obtain ⟨es, rfl⟩ := hDm; simp [Maps.size, intKeys]
    have e2 := hperm.length_eq
    rw [List.length_map] at e2
    have := keysUp_len d
    have := h.wf.hi
    have := h.k
    omega
  have HD : Hid (w.ownsMap Try.prog 3 rawR L.mi L.ci D) := hD
  have HL : Hid (DkAt P w B d L) := hL
  have HDF : Hid (∀ k, goodI k → Maps.has D (klit 3 kvI k) = (L.ino d k).isSome ∧ D.atKey (klit 3 kvI k) (.held (.pointer none)) = .held ((L.ino d k).getD (.pointer none))) := hDF
  have HPE : Hid (((keysUp d).map fun n => ((n : Nat) : Int)).Perm (intKeys D)) := hperm
  obtain ⟨S, hS⟩ : ∃ S, Maps.size D = S := ⟨_, rfl⟩
  have HS : Hid (Maps.size D = S) := hS
  rw [hS] at hsz
  obtain ⟨i0, hi0, hz0, hz1, hz2⟩ := info_parts infS
  have HIN : Hid (Try.prog.info? 9 = some i0 ∧ i0.zero = some (.string ⟨#[]⟩) ∧ i0.size = 1 ∧ i0.bytes = 16) := ⟨hi0, hz0, hz1, hz2⟩
  clear h hL hc hD hDm hDF hperm hS hi0 hz0 hz1 hz2
  go_enter Try.func14, Try.ntmps14
  go_wp2_with (first
    | (at_len; refine wpList_len_own _ rfl _ _ rfl 3 90 (by kernel_rfl) rawR L.mi L.ci D rfl HD.out ?_; rw [HS.out])
    | (refine wpList_make_own (P := Try.prog) _ rfl _ _ 38 rfl w.heap.size 9 i0 (.string ⟨#[]⟩) 1 (by kernel_rfl) HIN.out.1 HIN.out.2.1 HIN.out.2.2.1 .i64 .i64 (S : Int) S rfl rfl rfl (by rw [HIN.out.2.2.2]; omega) (by unfold maxLen; omega) (Nat.le_refl _) ?_; intro w1 ho1 hg1; have HO1 : Hid (w1.ownsRow w.heap.size 9 1 (.slice (some ⟨w.heap.size, 0, none⟩) 0 S) 0 []) := ho1; have HK1 : Hid (Below w.heap.size w w1) := (Below.refl _ _).grown hg1 (Nat.le_refl _) (fun k hk => by cases hk); have HL1 : Hid (DkAt P w1 B d L) := HL.out.later HK1.out; have HD1 : Hid (w1.ownsMap Try.prog 3 rawR L.mi L.ci D) := HD.out.kept hg1 (by simp); obtain ⟨d0, d1, d2⟩ := HL1.out.cells; clear ho1 hg1 c0 c1 c2)
    | (at_range; refine wpList_range_own _ rfl _ 86 rfl 3 90 lawI (by kernel_rfl) rawR L.mi L.ci D rfl HD1.out ?_; intro w2 hrg hg2 hs2; have HRG : Hid (w2.ranges Try.prog 3 rawR L.mi w1.heap.size L.ci D (Maps.has D) (Maps.size D)) := hrg; have HK2 : Hid (Below w.heap.size w w2) := HK1.out.grown hg2 HK1.out.size (fun k hk => by cases hk); have HO2 : Hid (w2.ownsRow w.heap.size 9 1 (.slice (some ⟨w.heap.size, 0, none⟩) 0 S) 0 []) := ownsRow_keep HO1.out (fun b hb _ hl => hg2.block b hl (by simp)); have HR1 : Hid (w.heap.size ≤ w1.heap.size) := HK1.out.size; clear hrg hg2 hs2 HO1 HD1 d0 d1 d2)
    | fail)
  go_frame
  obtain ⟨r, hr⟩ : ∃ r, w1.heap.size = r := ⟨_, rfl⟩
  rw [hr] at HRG HR1 ⊢
  have H0 : Hid (NmI w d L D r (.slice (some ⟨w.heap.size, 0, none⟩) 0 S) w2 (Maps.has D) (Maps.size D) []) := ⟨HRG.out, CollectedI.start D, HO2.out, HK2.out, by simp, HR1.out, by simp⟩
  clear hr HRG HR1 HO2 HK2 HK1 HL1
  go_loopw [3] (fun v u => ∃ left cnt ss, Hid (NmI w d L D r v u left cnt ss)) (fun _ u => u.rangeLeft L.mi r)
  case atStart => exact ⟨_, _, _, H0⟩
  case round =>
    obtain ⟨left, cnt, ss, HN⟩ := hrel
    clear H0
    rcases HN.out.rg.next lawI 0 with ⟨hcnt, hl0, hrun⟩ | ⟨key, v', kl, y, w', cnt', hkey, hlk, hv, hat, hrun, hrg, hlt, hgr, hsz', hen⟩
    · have hps : ss.Perm (intKeys D) := HN.out.co.perm HN.out.rg.owns lawI Try.underlying3 hl0
      rcases HN.out.ow.2 with ⟨e, _⟩ | ⟨g, cap, cur, rfl, hgb, hgc, hcn, hcm, hcs, hct⟩
      · exact absurd e HN.out.nn
      have hlen : ss.length ≤ S := by have := HN.out.ct; rw [HS.out] at this; omega
      have e1 : ss.length = (ss.map (nmZ d)).length := by simp
      have e2 : (ss.map fun z => encStr (nmZ d z)) = (ss.map (nmZ d)).map encStr := by simp
      rw [e2] at hct
      have HSO := AnyM.slices_Sort_string Try.sortS g 0 cap (ss.map (nmZ d)) wr (holds_of_block hgc (by rw [← e1]; simpa using hct)) (Array.getElem?_eq_some_iff.1 hgc).1 (by rw [← e1]; omega)
      rw [← e1] at HSO
      have HSO : Hid (Calls Try.prog 34 #[.slice (some ⟨g, 0, none⟩) ss.length cap] wr _) := HSO
      have HEND : Hid (∀ n os, (Sort.grow (Sort.putRow encStr (Sort.ahead wr n) g 0 ((ss.map (nmZ d)).mergeSort fun x y => decide (x ≤ y)).toArray) os).ownsRow w.heap.size 9 1 (.slice (some ⟨g, 0, none⟩) ss.length cap) (nmL d).length ((nmL d).map encStr) ∧ Below w.heap.size w (Sort.grow (Sort.putRow encStr (Sort.ahead wr n) g 0 ((ss.map (nmZ d)).mergeSort fun x y => decide (x ≤ y)).toArray) os)) := fun n os => by
        have hpp : (ss.map (nmZ d)).Perm ((keysUp d).map fun n => nmZ d ((n : Nat) : Int)) := by
          have := (hps.trans HPE.out.symm).map (nmZ d)
          rw [List.map_map] at this
          exact this
        have hms : (ss.map (nmZ d)).mergeSort (fun x y => decide (x ≤ y)) = nmL d := mergeSort_of_perm hpp
        have hnl : (nmL d).length = ss.length := by rw [← hms, List.length_mergeSort, List.length_map]
        have ho := ownsRow_sorted (w := wr) (base := w.heap.size) (n := n) (os := os) (ss := ss.map (nmZ d)) (ts := (ss.map (nmZ d)).mergeSort fun x y => decide (x ≤ y)) (by simp) hgb hgc (by rw [← e1]; exact hcn) hcm hcs
        rw [← e1] at ho
        refine ⟨?_, HN.out.lo.grown (grownBy_sorted _) HN.out.lo.size (fun j hj => by cases hj; exact hgb)⟩
        rw [hms] at ho
        rw [hnl, hms]
        exact ho
      clear HN hps hgc hct hcs e1 e2 hcnt hl0
      go_wp2_with fail
      refine HSO.out.mono ?_
      rintro e w3 ⟨rfl, n, os, rfl⟩
      have HE := HEND.out n os
      clear HEND HSO
      obtain ⟨w3, hw3⟩ : ∃ w3, Sort.grow (Sort.putRow encStr (Sort.ahead wr n) g 0 ((ss.map (nmZ d)).mergeSort fun x y => decide (x ≤ y)).toArray) os = w3 := ⟨_, rfl⟩
      rw [hw3] at HE ⊢
      have HE : Hid (w3.ownsRow w.heap.size 9 1 (.slice (some ⟨g, 0, none⟩) ss.length cap) (nmL d).length ((nmL d).map encStr) ∧ Below w.heap.size w w3) := HE
      clear hw3
      go_wp2
      go_ret
      exact ⟨_, rfl, HE.out.1, HE.out.2⟩
    · obtain ⟨x, rfl, rfl, hwx⟩ := Maps.keyOf_i64 Try.underlying3 hkey
      have hgx := wf_i64 hwx
      obtain ⟨rfl⟩ : y = (.held v', []) := by unfold rawR at hv; cases hv; rfl
      obtain ⟨hF1, hF2⟩ := HDF.out x hgx
      rw [klitI hgx] at hF1 hF2
      have hhas : Maps.has D (.int .i64 x) = true := has_true_of_atKey hat
      rw [hhas] at hF1
      rw [hat] at hF2
      have hv2 : v' = (L.ino d x).getD (.pointer none) := by injection hF2
      rw [Lay.inoZ] at hv2
      obtain ⟨f, hf⟩ : ∃ f, inoZ d x = some f := by
        have : (inoZ d x).isSome = true := by
          unfold Lay.ino at hF1
          unfold inoZ
          by_cases h0 : 0 ≤ x
          · rw [if_pos h0, Option.isSome_map] at hF1; rw [if_pos h0]; exact hF1.symm
          · rw [if_neg h0] at hF1; cases hF1
        exact Option.isSome_iff_exists.1 this
      rw [hf] at hv2
      simp only [Option.isSome_some, if_true] at hv2
      subst hv2
      have hfd : d.ino x.toNat = some f := by
        unfold inoZ at hf
        by_cases h0 : 0 ≤ x
        · rwa [if_pos h0] at hf
        · rw [if_neg h0] at hf; cases hf
      have hne := iter_ne HN.out
      have lo' : Below w.heap.size w w' := HN.out.lo.grown hgr HN.out.lo.size (fun k hk => by cases hk; exact HN.out.rl)
      have hib := (HL.out.later lo').ib _ f hfd
      obtain ⟨_, i1, _, _, _⟩ := hib.cells
      have how' : w'.ownsRow w.heap.size 9 1 u3 ss.length (ss.map fun z => encStr (nmZ d z)) := ownsRow_keep HN.out.ow (fun b hb _ hl => hgr.block b hl (fun e => hne (by rw [← e, hb])))
      have hnx := HN.out.co.step hlk hat
      have hct := HN.out.ct
      rw [HS.out] at hct
      have HNN : Hid (u3 ≠ .slice none 0 0 ∧ w.heap.size ≤ r ∧ ss.length + cnt ≤ S ∧ cnt' < cnt) := ⟨HN.out.nn, HN.out.rl, hct, hlt⟩
      have HLE : Hid (wr.rangeLeft L.mi r = cnt) := HN.out.rg.left_eq
      have HCO : Hid (CollectedI D (fun z => left z && !z.sameKey (.int .i64 x)) (ss ++ [x])) := hnx
      have HNE : Hid (some r ≠ u3.ownBlock ∧ some L.mi ≠ u3.ownBlock) := ⟨hne, fun e => by
        obtain ⟨es, c, hm⟩ := HL.out.im.isMap
        have hm2 : w'.heap[L.mi]? = some (.map es c) := (lo'.block _ HL.out.im.lt).trans hm
        rcases how'.2 with ⟨e2, _⟩ | ⟨g, cap, cur, e2, _, hg, _⟩
        · rw [e2] at e; cases e
        · rw [e2] at e
          have : L.mi = g := by injection e
          rw [this, hg] at hm2
          cases hm2⟩
      have HEN : Hid (encStr (nmZ d x) = .string f.nm) := encStr_nm hf
      have HOW : Hid (w'.ownsRow w.heap.size 9 1 u3 ss.length (ss.map fun z => encStr (nmZ d z))) := how'
      have HRG : Hid (w'.ranges Try.prog 3 rawR L.mi r L.ci D (fun z => left z && !z.sameKey (.int .i64 x)) cnt') := hrg
      have HLO : Hid (Below w.heap.size w w') := lo'
      have hsl : ss.length ≤ 1000001 := by omega
      clear HN hkey hlk hv hat hlt hgr hsz' hrg hgx hwx hF1 hF2 hhas hf hfd hne lo' hib how' hnx hct
      go_wp2_with (first
        | (refine wpList_append_lat rfl (.tmp 21) (.tmp 26) rfl (.string ⟨#[]⟩) 16 (by kernel_rfl) infS rfl w.heap.size _ ss.length _ rfl (ownsRow_keep HOW.out (fun b _ _ hl => Below.heap_alloc w' _ b hl)) _ _ rfl (lat_lit w' (.string f.nm) 9 (0, 0)) (fun u hu => by simp at hu; subst hu; rfl) (by simp only [List.length_cons, List.length_nil]; unfold maxLen; omega) (by simp only [List.length_cons, List.length_nil]; omega) (by have := HLO.out.size; simp; omega) ?_; intro V5 w5 ho5 hg5 hn5 hh5; have HR5 : Hid (NmI w d L D r V5 w5 (fun z => left z && !z.sameKey (.int .i64 x)) cnt' (ss ++ [x])) := nm_step HOW.out HRG.out HLO.out HCO.out HNN.out HNE.out HEN.out HS.out ho5 hg5 hn5; clear ho5 hg5 hn5 hh5)
        | fail)
      go_roundw
      case rel => exact ⟨_, _, _, HR5⟩
      case measure => rw [HR5.out.rg.left_eq, HLE.out]; exact HNN.out.2.2.2
end Go.Proofs.Ytobbcgendjakiaa
