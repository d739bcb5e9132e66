/- heronlaw08's Book.at. -/
import Derived.Test.YtmjnobdlgbojoaaDoorG20
namespace Go.Proofs.YtmjnobdlgbojoaaDoor
open Go.RowKit
attribute [local go_sem ↓] Go.wp_at_zero Go.wp_at_succ

set_option maxRecDepth 8000 in
set_option maxHeartbeats 32000000 in
theorem at_any {b0 base b1 : Nat} {M : Ma} {x : Nf} {S : Nat} {g : Oct.S} {r : Nat} {f : Bool} {VR VW : Value} {es : List Ent} (K Wb B : Nat) (w : World) (hK : Bk b0 w K VR VW es) (hw : WkAt base w Wb M S g r (!f)) (hB : RkAt b1 w B x S g r f) (hx : MaAt (fun k => k < b0) w M x) (hF : Fits M S) (hT : Tab w) (he : M.es.length ≤ 1048576) (hS : S ≤ 1048576) (hr : r < 4294967296) (hlt : ∀ s, g s = true → s < S) (hcnt : ∀ s, g s = true → s = 0 ∨ ∃ y ∈ M.es, y.t.toNat = s) (h0 : g 0 = true) (hb0 : b0 ≤ w.heap.size) (hb1 : 0 < b0) (hel : es.length ≤ 600) :
    Calls Tryd.prog 19 #[.pointer (some ⟨K, 0, none⟩), .pointer (some ⟨Wb, 0, none⟩), .pointer (some ⟨B, 0, none⟩)] w fun e w' => e = .returned (.bool true) ∧ Fbk b0 w w' ∧ ∃ VR' VW' e1 e2, Bk b0 w' K VR' VW' (es ++ [e1, e2]) ∧ e1.l.length ≤ 1048576 ∧ e2.l.length ≤ 1048576 := by
  obtain ⟨tl, htl⟩ := els_zero hF.1 h0
  have hlen : (Oct.els g S).length ≤ S := Oct.els_length g S
  have hne : Oct.els g S ≠ [] := by rw [htl]; simp
  have HBK : Hid (Bk b0 w K VR VW es) := hK
  have HWK : Hid (WkAt base w Wb M S g r (!f)) := hw
  have HRK : Hid (RkAt b1 w B x S g r f) := hB
  have HMX : Hid (MaAt (fun k => k < b0) w M x) := hx
  have HF : Hid (Fits M S) := hF
  have HT : Hid (Tab w) := hT
  have HLT : Hid (∀ s, g s = true → s < S) := hlt
  have HCN : Hid (∀ s, g s = true → s = 0 ∨ ∃ y ∈ M.es, y.t.toNat = s) := hcnt
  have HB0 : Hid (b0 ≤ w.heap.size) := hb0
  have HNE : Hid (Oct.els g S ≠ []) := hne
  obtain ⟨gb, c, hbB, hrw, hro⟩ := hB
  have HST1 : Hid (Calls Tryd.prog 41 #[.pointer (some ⟨B, 0, none⟩)] w _) := rstates_any B gb S c w hrw hro hS
  clear hK hw hx hF hT hlt hcnt hb0 hne hbB hrw hro htl
  go_enter Tryd.func19, Tryd.ntmps19
  go_wp2_with fail
  refine HST1.out.mono ?_
  rintro e1 w1 ⟨V1, rfl, hst1, k1⟩
  have hst1' : Stk w1 w.heap.size V1 (Oct.els g S) := hst1
  obtain ⟨h1, d1, rfl, hh1, _⟩ := hst1'.len HNE.out
  have HS1 : Hid (Stk w1 w.heap.size (.slice (some ⟨h1, 0, none⟩) (Oct.els g S).length d1) (Oct.els g S)) := hst1
  have HK1 : Hid (Below w.heap.size w w1) := k1
  have HST2 : Hid (Calls Tryd.prog 9 #[.pointer (some ⟨Wb, 0, none⟩)] w1 _) := states_any Wb w1 (HWK.out.later k1) (HT.out.later k1) (by omega) HLT.out (by omega)
  clear hst1 hst1' k1 HST1
  go_wp2_with fail
  refine HST2.out.mono ?_
  rintro e2 w2 ⟨V2, rfl, hst2, k2⟩
  obtain ⟨g1, c1, rfl, hg1, _⟩ := hst2.len HNE.out
  have HS2 : Hid (Stk w2 w1.heap.size (.slice (some ⟨g1, 0, none⟩) (Oct.els g S).length c1) (Oct.els g S)) := hst2
  have HK2 : Hid (Below w1.heap.size w1 w2) := k2
  have HKB2 : Hid (Below w.heap.size w w2) := below_step HK1.out k2
  have HST3 : Hid (Calls Tryd.prog 9 #[.pointer (some ⟨Wb, 0, none⟩)] w2 _) := states_any Wb w2 (HWK.out.later HKB2.out) (HT.out.later HKB2.out) (by omega) HLT.out (by omega)
  clear hst2 k2 HST2
  go_wp2_with fail
  refine HST3.out.mono ?_
  rintro e3 w3 ⟨V3, rfl, hst3, k3⟩
  obtain ⟨g2, c2, rfl, hg2, _⟩ := hst3.len HNE.out
  have HS3 : Hid (Stk w3 w2.heap.size (.slice (some ⟨g2, 0, none⟩) (Oct.els g S).length c2) (Oct.els g S)) := hst3
  have HKB3 : Hid (Below w.heap.size w w3) := below_step HKB2.out k3
  have HK3 : Hid (Below w2.heap.size w2 w3) := k3
  clear hst3 k3 HST3
  obtain ⟨l, hl⟩ : ∃ l, l = Oct.els g S := ⟨_, rfl⟩
  rw [← hl] at HS1 HS2 HS3 hlen ⊢
  have HLL : Hid (l = Oct.els g S) := hl
  clear hl
  have HBK3 : Hid (Bk b0 w3 K VR VW es) := HBK.out.later HKB3.out
  obtain ⟨q0, q1⟩ := HBK3.out.blk.cells
  have kk : Below w3.heap.size w3 (w3.alloc (.cells #[.slice (some ⟨g1, 0, none⟩) l.length c1, .slice (some ⟨g2, 0, none⟩) l.length c2] 39)) := (Below.refl _ _).alloc (Nat.le_refl _) _
  have HB4 : Hid (Bk b0 (w3.alloc (.cells #[.slice (some ⟨g1, 0, none⟩) l.length c1, .slice (some ⟨g2, 0, none⟩) l.length c2] 39)) K VR VW es) := HBK3.out.later kk
  have HF4 : Hid (Fbk b0 w (w3.alloc (.cells #[.slice (some ⟨g1, 0, none⟩) l.length c1, .slice (some ⟨g2, 0, none⟩) l.length c2] 39))) := (Fbk.below HKB3.out).later kk
  have HZ4 : Hid (b0 ≤ (w3.alloc (.cells #[.slice (some ⟨g1, 0, none⟩) l.length c1, .slice (some ⟨g2, 0, none⟩) l.length c2] 39)).heap.size ∧ (es.map Ent.raw).length ≤ 1000 ∧ (es.map Ent.was).length ≤ 1000) := ⟨by have h1 := HB0.out; have h2 := HF4.out.size; omega, by rw [List.length_map]; omega, by rw [List.length_map]; omega⟩
  have HN4 : Hid ((w3.alloc (.cells #[.slice (some ⟨g1, 0, none⟩) l.length c1, .slice (some ⟨g2, 0, none⟩) l.length c2] 39)).cell? ((⟨w3.heap.size, 0, none⟩ : Addr).add 0) = some (.slice (some ⟨g1, 0, none⟩) l.length c1) ∧ (w3.alloc (.cells #[.slice (some ⟨g1, 0, none⟩) l.length c1, .slice (some ⟨g2, 0, none⟩) l.length c2] 39)).cell? ((⟨w3.heap.size, 0, none⟩ : Addr).add 1) = some (.slice (some ⟨g2, 0, none⟩) l.length c2)) := ⟨World.news_of_block (heap_alloc_new w3 _) 0 _ rfl, World.news_of_block (heap_alloc_new w3 _) 1 _ rfl⟩
  have HS34 : Hid (Below w3.heap.size w3 (w3.alloc (.cells #[.slice (some ⟨g1, 0, none⟩) l.length c1, .slice (some ⟨g2, 0, none⟩) l.length c2] 39))) := kk
  clear kk
  go_upto_region 5 with (at_builtin; go_must (refine wpList_append_two rfl _ _ rfl b0 VR (es.map Ent.raw) HB4.out.raw HZ4.out.1 HZ4.out.2.1 rfl ⟨w3.heap.size, 0, none⟩ 2 _ _ _ _ _ _ rfl HN4.out.1 HN4.out.2 ?_; intro ga ca w5 hrow5 hg5 hor5; have HR5 : Hid (RowV 39 w5 b0 (.slice (some ⟨ga, 0, none⟩) ((es.map Ent.raw).length + 2) ca) (es.map Ent.raw ++ [.slice (some ⟨g1, 0, none⟩) l.length c1, .slice (some ⟨g2, 0, none⟩) l.length c2])) := hrow5; have HG5 : Hid ((w3.alloc (.cells #[.slice (some ⟨g1, 0, none⟩) l.length c1, .slice (some ⟨g2, 0, none⟩) l.length c2] 39)).grownBy w5 VR.ownBlock) := hg5; have HOR : Hid (VR.ownBlock = some ga ∨ ga = (w3.alloc (.cells #[.slice (some ⟨g1, 0, none⟩) l.length c1, .slice (some ⟨g2, 0, none⟩) l.length c2] 39)).heap.size) := hor5; have HBK5 : Hid (BKB w5 K VR VW) := (hg5.block K HB4.out.blk.lt (fun e => absurd (TyB.ne HB4.out.blk.ty (HB4.out.raw.ty K e.symm).2) (by decide))).trans HB4.out.blk; obtain ⟨p0, p1⟩ := HBK5.out.cells; have f0 := HBK5.out.frozen 0; clear hrow5 hg5 hor5))
  rw [List.length_map] at HR5
  have HB6 : Hid (BKB (w5.setCell ⟨K, 0, none⟩ (.slice (some ⟨ga, 0, none⟩) (es.length + 2) ca)) K (.slice (some ⟨ga, 0, none⟩) (es.length + 2) ca) VW) := by unfold BKB; rw [heap_set HBK5.out]; rfl
  have hset6 : ∀ k, k ≠ K → (w5.setCell ⟨K, 0, none⟩ (.slice (some ⟨ga, 0, none⟩) (es.length + 2) ca)).heap[k]? = w5.heap[k]? := fun k hk => Below.heap_setCell w5 ⟨K, 0, none⟩ _ k hk
  have hF5 : Fbk b0 w3 w5 := (Fbk.below HS34.out).grown HG5.out (fun k e => HB4.out.raw.ty k e)
  have HF6 : Hid (Fbk b0 w3 (w5.setCell ⟨K, 0, none⟩ (.slice (some ⟨ga, 0, none⟩) (es.length + 2) ca))) := hF5.set HB4.out.low HBK5.out.ty 0 _
  have HR6 : Hid (RowV 39 (w5.setCell ⟨K, 0, none⟩ (.slice (some ⟨ga, 0, none⟩) (es.length + 2) ca)) b0 (.slice (some ⟨ga, 0, none⟩) (es.length + 2) ca) (es.map Ent.raw ++ [.slice (some ⟨g1, 0, none⟩) l.length c1, .slice (some ⟨g2, 0, none⟩) l.length c2])) := HR5.out.keep (fun b _ ht => hset6 b (fun e => by subst e; exact absurd (TyB.ne ht HBK5.out.ty) (by decide)))
  have hW5 : RowV 39 w5 b0 VW (es.map Ent.was) := HB4.out.was.keepB (fun b hb => HG5.out.block b (HB4.out.was.ty b hb).2.lt (fun e => HB4.out.sep b e.symm hb))
  have HW6 : Hid (RowV 39 (w5.setCell ⟨K, 0, none⟩ (.slice (some ⟨ga, 0, none⟩) (es.length + 2) ca)) b0 VW (es.map Ent.was)) := hW5.keep (fun b _ ht => hset6 b (fun e => by subst e; exact absurd (TyB.ne ht HBK5.out.ty) (by decide)))
  have HSE6 : Hid (VW.ownBlock ≠ some ga) := fun e => by
    rcases HOR.out with h | h
    · exact HB4.out.sep ga h e
    · have h3 := (HB4.out.was.ty ga e).2.lt
      omega
  clear hset6 hF5 hW5 p0 p1 f0 q0 q1
  obtain ⟨w6, hw6⟩ : ∃ w6, w5.setCell ⟨K, 0, none⟩ (.slice (some ⟨ga, 0, none⟩) (es.length + 2) ca) = w6 := ⟨_, rfl⟩
  rw [hw6] at HB6 HF6 HR6 HW6 ⊢
  clear hw6 HBK5 HR5 HG5 HOR HN4 HF4
  obtain ⟨q0, q1⟩ := HB6.out.cells
  have kk : Below w6.heap.size w6 (w6.alloc (.cells #[.slice (some ⟨h1, 0, none⟩) l.length d1, .slice (some ⟨h1, 0, none⟩) l.length d1] 39)) := (Below.refl _ _).alloc (Nat.le_refl _) _
  have HF7 : Hid (Fbk b0 w3 (w6.alloc (.cells #[.slice (some ⟨h1, 0, none⟩) l.length d1, .slice (some ⟨h1, 0, none⟩) l.length d1] 39))) := HF6.out.later kk
  have HB7 : Hid (BKB (w6.alloc (.cells #[.slice (some ⟨h1, 0, none⟩) l.length d1, .slice (some ⟨h1, 0, none⟩) l.length d1] 39)) K (.slice (some ⟨ga, 0, none⟩) (es.length + 2) ca) VW) := HB6.out.later kk
  have HR7 : Hid (RowV 39 (w6.alloc (.cells #[.slice (some ⟨h1, 0, none⟩) l.length d1, .slice (some ⟨h1, 0, none⟩) l.length d1] 39)) b0 (.slice (some ⟨ga, 0, none⟩) (es.length + 2) ca) (es.map Ent.raw ++ [.slice (some ⟨g1, 0, none⟩) l.length c1, .slice (some ⟨g2, 0, none⟩) l.length c2])) := HR6.out.later kk
  have HW7 : Hid (RowV 39 (w6.alloc (.cells #[.slice (some ⟨h1, 0, none⟩) l.length d1, .slice (some ⟨h1, 0, none⟩) l.length d1] 39)) b0 VW (es.map Ent.was)) := HW6.out.later kk
  have HZ7 : Hid (b0 ≤ (w6.alloc (.cells #[.slice (some ⟨h1, 0, none⟩) l.length d1, .slice (some ⟨h1, 0, none⟩) l.length d1] 39)).heap.size) := by have h1 := HB0.out; have h2 := HF7.out.size; have h3 := HKB3.out.size; show _ ≤ _; omega
  have HGA : Hid (ga < (w6.alloc (.cells #[.slice (some ⟨h1, 0, none⟩) l.length d1, .slice (some ⟨h1, 0, none⟩) l.length d1] 39)).heap.size) := (HR7.out.ty ga rfl).2.lt
  have HN7 : Hid ((w6.alloc (.cells #[.slice (some ⟨h1, 0, none⟩) l.length d1, .slice (some ⟨h1, 0, none⟩) l.length d1] 39)).cell? ((⟨w6.heap.size, 0, none⟩ : Addr).add 0) = some (.slice (some ⟨h1, 0, none⟩) l.length d1) ∧ (w6.alloc (.cells #[.slice (some ⟨h1, 0, none⟩) l.length d1, .slice (some ⟨h1, 0, none⟩) l.length d1] 39)).cell? ((⟨w6.heap.size, 0, none⟩ : Addr).add 1) = some (.slice (some ⟨h1, 0, none⟩) l.length d1)) := ⟨World.news_of_block (heap_alloc_new w6 _) 0 _ rfl, World.news_of_block (heap_alloc_new w6 _) 1 _ rfl⟩
  clear kk
  go_upto_region 6 with (at_builtin; go_must (refine wpList_append_two rfl _ _ rfl b0 VW (es.map Ent.was) HW7.out HZ7.out HZ4.out.2.2 rfl ⟨w6.heap.size, 0, none⟩ 2 _ _ _ _ _ _ rfl HN7.out.1 HN7.out.2 ?_; intro gw cw w8 hrow8 hg8 hor8; have HW8 : Hid (RowV 39 w8 b0 (.slice (some ⟨gw, 0, none⟩) ((es.map Ent.was).length + 2) cw) (es.map Ent.was ++ [.slice (some ⟨h1, 0, none⟩) l.length d1, .slice (some ⟨h1, 0, none⟩) l.length d1])) := hrow8; have HG8 : Hid ((w6.alloc (.cells #[.slice (some ⟨h1, 0, none⟩) l.length d1, .slice (some ⟨h1, 0, none⟩) l.length d1] 39)).grownBy w8 VW.ownBlock) := hg8; have HOW : Hid (VW.ownBlock = some gw ∨ gw = (w6.alloc (.cells #[.slice (some ⟨h1, 0, none⟩) l.length d1, .slice (some ⟨h1, 0, none⟩) l.length d1] 39)).heap.size) := hor8; have HBK8 : Hid (BKB w8 K (.slice (some ⟨ga, 0, none⟩) (es.length + 2) ca) VW) := (hg8.block K HB7.out.lt (fun e => absurd (TyB.ne HB7.out.ty (HW7.out.ty K e.symm).2) (by decide))).trans HB7.out; obtain ⟨p0, p1⟩ := HBK8.out.cells; have f1 := HBK8.out.frozen 1; clear hrow8 hg8 hor8))
  rw [List.length_map] at HW8
  have HB9 : Hid (BKB (w8.setCell ⟨K, 1, none⟩ (.slice (some ⟨gw, 0, none⟩) (es.length + 2) cw)) K (.slice (some ⟨ga, 0, none⟩) (es.length + 2) ca) (.slice (some ⟨gw, 0, none⟩) (es.length + 2) cw)) := by unfold BKB; rw [heap_set HBK8.out]; rfl
  have hset9 : ∀ k, k ≠ K → (w8.setCell ⟨K, 1, none⟩ (.slice (some ⟨gw, 0, none⟩) (es.length + 2) cw)).heap[k]? = w8.heap[k]? := fun k hk => Below.heap_setCell w8 ⟨K, 1, none⟩ _ k hk
  have hF8 : Fbk b0 w3 w8 := HF7.out.grown HG8.out (fun k e => HW7.out.ty k e)
  have HF9 : Hid (Fbk b0 w3 (w8.setCell ⟨K, 1, none⟩ (.slice (some ⟨gw, 0, none⟩) (es.length + 2) cw))) := hF8.set HB4.out.low HBK8.out.ty 1 _
  have HW9 : Hid (RowV 39 (w8.setCell ⟨K, 1, none⟩ (.slice (some ⟨gw, 0, none⟩) (es.length + 2) cw)) b0 (.slice (some ⟨gw, 0, none⟩) (es.length + 2) cw) (es.map Ent.was ++ [.slice (some ⟨h1, 0, none⟩) l.length d1, .slice (some ⟨h1, 0, none⟩) l.length d1])) := HW8.out.keep (fun b _ ht => hset9 b (fun e => by subst e; exact absurd (TyB.ne ht HBK8.out.ty) (by decide)))
  have hR8 : RowV 39 w8 b0 (.slice (some ⟨ga, 0, none⟩) (es.length + 2) ca) (es.map Ent.raw ++ [.slice (some ⟨g1, 0, none⟩) l.length c1, .slice (some ⟨g2, 0, none⟩) l.length c2]) := HR7.out.keepB (fun b hb => by cases hb; exact HG8.out.block ga HGA.out (fun e => HSE6.out e.symm))
  have HR9 : Hid (RowV 39 (w8.setCell ⟨K, 1, none⟩ (.slice (some ⟨gw, 0, none⟩) (es.length + 2) cw)) b0 (.slice (some ⟨ga, 0, none⟩) (es.length + 2) ca) (es.map Ent.raw ++ [.slice (some ⟨g1, 0, none⟩) l.length c1, .slice (some ⟨g2, 0, none⟩) l.length c2])) := hR8.keep (fun b _ ht => hset9 b (fun e => by subst e; exact absurd (TyB.ne ht HBK8.out.ty) (by decide)))
  have HSEP : Hid (ga ≠ gw) := fun e => by
    subst e
    rcases HOW.out with h | h
    · exact HSE6.out h
    · have h3 := HGA.out; omega
  clear hset9 hF8 hR8 p0 p1 f1 q0 q1
  obtain ⟨w9, hw9⟩ : ∃ w9, w8.setCell ⟨K, 1, none⟩ (.slice (some ⟨gw, 0, none⟩) (es.length + 2) cw) = w9 := ⟨_, rfl⟩
  rw [hw9] at HB9 HF9 HR9 HW9 ⊢
  clear hw9 HBK8 HW8 HG8 HOW HN7 HF7 HB7 HR7 HW7 HZ7 HB6 HF6 HR6 HW6
  have hh1l : h1 < w1.heap.size := (HS1.out.ty h1 rfl).2.lt
  have hg1l : g1 < w2.heap.size := (HS2.out.ty g1 rfl).2.lt
  have hsz1 : w.heap.size ≤ w1.heap.size := HK1.out.size
  have hsz2 : w1.heap.size ≤ w2.heap.size := HK2.out.size
  have HNB : Hid (Bk b0 w9 K (.slice (some ⟨ga, 0, none⟩) (es.length + 2) ca) (.slice (some ⟨gw, 0, none⟩) (es.length + 2) cw) (es ++ [⟨g1, c1, h1, d1, l⟩, ⟨g2, c2, h1, d1, l⟩])) := by
    have hold : ∀ e ∈ es, e.g < w.heap.size ∧ e.h < w.heap.size := fun e he => ⟨((HBK.out.rows e he).1.ty e.g rfl).2.lt, ((HBK.out.rows e he).2.ty e.h rfl).2.lt⟩
    have hb01 := HB0.out
    refine ⟨HB9.out, HB4.out.low, by rw [List.map_append]; exact HR9.out, by rw [List.map_append]; exact HW9.out, fun b hb hb2 => ?_, fun e he => ?_, ?_, fun e he f hf => ?_⟩
    · cases hb
      exact HSEP.out (by cases hb2; rfl)
    · rcases List.mem_append.1 he with he | he
      · exact ⟨HF9.out.stk (HBK3.out.rows e he).1, HF9.out.stk (HBK3.out.rows e he).2⟩
      · have hs1 : Stk w9 b0 (.slice (some ⟨h1, 0, none⟩) l.length d1) l := HF9.out.stk (stk_low ((HS1.out.keep (fun k _ hl => HK2.out.block k hl)).keep (fun k _ hl => HK3.out.block k hl)) (by omega))
        simp only [List.mem_cons, List.not_mem_nil, or_false] at he
        rcases he with rfl | rfl
        · exact ⟨HF9.out.stk (stk_low (HS2.out.keep (fun k _ hl => HK3.out.block k hl)) (by omega)), hs1⟩
        · exact ⟨HF9.out.stk (stk_low HS3.out (by omega)), hs1⟩
    · rw [List.map_append, List.nodup_append]
      refine ⟨HBK.out.apart, by simp; omega, fun a ha b hb e => ?_⟩
      obtain ⟨y, hy, rfl⟩ := List.mem_map.1 ha
      have := hold y hy
      simp at hb
      omega
    · rcases List.mem_append.1 he with he | he <;> rcases List.mem_append.1 hf with hf | hf
      · exact HBK.out.other e he f hf
      · have := hold e he
        simp only [List.mem_cons, List.not_mem_nil, or_false] at hf
        rcases hf with rfl | rfl <;> simp only <;> omega
      · have := hold f hf
        simp only [List.mem_cons, List.not_mem_nil, or_false] at he
        rcases he with rfl | rfl <;> simp only <;> omega
      · simp only [List.mem_cons, List.not_mem_nil, or_false] at he hf
        rcases he with rfl | rfl <;> rcases hf with rfl | rfl <;> simp only <;> omega
  have HFW : Hid (Fbk b0 w w9) := HF9.out.from HKB3.out
  obtain ⟨z, hz⟩ := endOf_ex M f g r
  have HZ : Hid (EndOf M f g r z) := hz
  have HNL : Hid (l ≠ []) := by rw [HLL.out]; exact HNE.out
  have HUD : Hid (∀ u, Below w9.heap.size w9 u → WkAt base u Wb M S g r (!f) ∧ RkAt b1 u B x S g r f ∧ MaAt (fun _ => True) u M x ∧ Tab u) := fun u hu =>
    ⟨(HWK.out.fbk HFW.out).later hu, (HRK.out.fbk HFW.out).later hu, ((HMX.out.keep (Y := fun _ => True) (fun _ _ _ => trivial) (fun k hk hl => HFW.out.block k hl (Or.inl hk))).later hu), (HT.out.keep (HFW.out.block 0 HT.out.pos (Or.inl hb1))).later hu⟩
  have HRU : Hid (∀ u, Below w9.heap.size w9 u → Calls Tryd.prog 10 #[.pointer (some ⟨Wb, 0, none⟩)] u fun e w' => e = .returned (.int .u32 (r : Nat)) ∧ w' = u) := fun u hu => rules_any Wb u (HUD.out u hu).1
  have HEN : Hid (∀ u, Below w9.heap.size w9 u → Calls Tryd.prog 11 #[.pointer (some ⟨Wb, 0, none⟩)] u fun e w' => e = .returned (.int .u32 (z : Nat)) ∧ Below u.heap.size u w') := fun u hu => by
    refine (end_any Wb u (HUD.out u hu).1 HF.out (HUD.out u hu).2.2.2 (by omega) (by omega) hr HLT.out HCN.out).mono ?_
    rintro e w' ⟨z', rfl, h1, h2⟩
    rw [Bool.not_not] at h1
    rw [h1.uniq HZ.out]
    exact ⟨rfl, h2⟩
  have HRE : Hid (∀ u, Below w9.heap.size w9 u → Calls Tryd.prog 37 #[.pointer (some ⟨B, 0, none⟩)] u fun e w' => e = .returned (.int .u32 (z : Nat)) ∧ Below u.heap.size u w') := fun u hu => by
    refine (rend_any B u (HUD.out u hu).2.1 (HUD.out u hu).2.2.1 HF.out he hS hr HLT.out).mono ?_
    rintro e w' ⟨z', rfl, h1, h2⟩
    rw [h1.uniq HZ.out]
    exact ⟨rfl, h2⟩
  have HIA : Hid (∀ u, Below w9.heap.size w9 u → IntsAt u (some ⟨g1, 0, none⟩) l ∧ IntsAt u (some ⟨g2, 0, none⟩) l ∧ IntsAt u (some ⟨h1, 0, none⟩) l) := fun u hu => by
    have hk : ∀ {V : Value}, Stk w9 b0 V l → Stk u b0 V l := fun h => h.keep (fun k _ hl => hu.block k hl)
    obtain ⟨r1, r2⟩ := HNB.out.rows ⟨g1, c1, h1, d1, l⟩ (by simp)
    obtain ⟨r3, _⟩ := HNB.out.rows ⟨g2, c2, h1, d1, l⟩ (by simp)
    refine ⟨?_, ?_, ?_⟩
    · obtain ⟨q, _, e, _, h⟩ := (hk r1).len HNL.out
      cases e
      exact Or.inr ⟨g1, rfl, h⟩
    · obtain ⟨q, _, e, _, h⟩ := (hk r3).len HNL.out
      cases e
      exact Or.inr ⟨g2, rfl, h⟩
    · obtain ⟨q, _, e, _, h⟩ := (hk r2).len HNL.out
      cases e
      exact Or.inr ⟨h1, rfl, h⟩
  have HSA : Hid (∀ u, Below w9.heap.size w9 u → Calls Tryd.prog 42 #[.slice (some ⟨g1, 0, none⟩) l.length c1, .slice (some ⟨h1, 0, none⟩) l.length d1] u fun e w' => e = .returned (.bool true) ∧ Below u.heap.size u w') := fun u hu =>
    (sameInts_any _ _ c1 d1 l u (HIA.out u hu).1 (HIA.out u hu).2.2 (by omega)).mono (by rintro e w' ⟨rfl, m, rfl⟩; exact ⟨rfl, rfl, rfl, rfl, Nat.le_refl _, fun _ _ => rfl⟩)
  have HSB : Hid (∀ u, Below w9.heap.size w9 u → Calls Tryd.prog 42 #[.slice (some ⟨g2, 0, none⟩) l.length c2, .slice (some ⟨h1, 0, none⟩) l.length d1] u fun e w' => e = .returned (.bool true) ∧ Below u.heap.size u w') := fun u hu =>
    (sameInts_any _ _ c2 d1 l u (HIA.out u hu).2.1 (HIA.out u hu).2.2 (by omega)).mono (by rintro e w' ⟨rfl, m, rfl⟩; exact ⟨rfl, rfl, rfl, rfl, Nat.le_refl _, fun _ _ => rfl⟩)
  have HCE : Hid (∀ u, Below w9.heap.size w9 u → u.cell? ⟨B, 4, none⟩ = some (.int .u32 (r : Nat))) := fun u hu => by
    obtain ⟨_, _, _, h1, _⟩ := (HUD.out u hu).2.1
    exact h1.cells.2.2.2.2.1
  have HEND : Hid (∀ u, Below w9.heap.size w9 u → Fbk b0 w u ∧ ∃ VR' VW' e1 e2, Bk b0 u K VR' VW' (es ++ [e1, e2]) ∧ e1.l.length ≤ 1048576 ∧ e2.l.length ≤ 1048576) := fun u hu => ⟨HFW.out.later hu, _, _, _, _, HNB.out.later hu, (by show l.length ≤ 1048576; omega), (by show l.length ≤ 1048576; omega)⟩
  have d0 := HCE.out w9 (Below.refl _ _)
  clear hz HZ HUD HIA HNB HFW HF9 HB9 HR9 HW9 HSEP HS1 HS2 HS3 HK1 HK2 HK3 HKB2 HKB3 HBK3 HB4 HZ4 HS34 HSE6 HGA HBK HWK HRK HMX HLT HCN HNE HLL HT HB0 HF HNL
  have dm : ∀ u : Later w9, u.at_.cell? ⟨B, 4, none⟩ = some (.int .u32 (r : Nat)) := fun u => HCE.out _ u.below
  have HRU2 : Hid (∀ u : Later w9, Calls Tryd.prog 10 #[.pointer (some ⟨Wb, 0, none⟩)] u.at_ fun e w' => e = .returned (.int .u32 (r : Nat)) ∧ w' = u.at_) := fun u => HRU.out _ u.below
  have HEN2 : Hid (∀ u : Later w9, Calls Tryd.prog 11 #[.pointer (some ⟨Wb, 0, none⟩)] u.at_ fun e w' => e = .returned (.int .u32 (z : Nat)) ∧ Below u.at_.heap.size u.at_ w') := fun u => HEN.out _ u.below
  have HRE2 : Hid (∀ u : Later w9, Calls Tryd.prog 37 #[.pointer (some ⟨B, 0, none⟩)] u.at_ fun e w' => e = .returned (.int .u32 (z : Nat)) ∧ Below u.at_.heap.size u.at_ w') := fun u => HRE.out _ u.below
  have HSI2 : Hid (∀ (g c : Nat), (g = g1 ∧ c = c1) ∨ (g = g2 ∧ c = c2) → ∀ u : Later w9, Calls Tryd.prog 42 #[.slice (some ⟨g, 0, none⟩) l.length c, .slice (some ⟨h1, 0, none⟩) l.length d1] u.at_ fun e w' => e = .returned (.bool true) ∧ Below u.at_.heap.size u.at_ w') := fun g c h u => by
    rcases h with ⟨rfl, rfl⟩ | ⟨rfl, rfl⟩
    · exact HSA.out _ u.below
    · exact HSB.out _ u.below
  clear HRU HEN HRE HSA HSB HCE d0
  refine wp_region_later (by kernel_rfl) (by kernel_rfl) ?_
  repeat (first
    | go_big_quiet_step ((first | (go_at_call 10; exact calls_later_same (HRU2.out _)) | (go_at_call 11; exact calls_later (HEN2.out _)) | (go_at_call 37; exact calls_later (HRE2.out _)) | (go_at_call 42; exact calls_later (HSI2.out _ _ (by first | exact .inl ⟨rfl, rfl⟩ | exact .inr ⟨rfl, rfl⟩) _))))
    | quiet_step ((first | (go_at_call 10; exact calls_later_same (HRU2.out _)) | (go_at_call 11; exact calls_later (HEN2.out _)) | (go_at_call 37; exact calls_later (HRE2.out _)) | (go_at_call 42; exact calls_later (HSI2.out _ _ (by first | exact .inl ⟨rfl, rfl⟩ | exact .inr ⟨rfl, rfl⟩) _))))
    | (refine wpQuiet_step (fun K hK => ?_); go_simp; first | (refine ⟨_, fun _ => rfl, hK _ ?_⟩; clear hK K) | (refine hK _ ?_; clear hK K)))
  refine wpQuiet_nil ?_
  intro _ hw'
  obtain ⟨u, hw''⟩ := hw'
  subst hw''
  go_wp2
  go_ret
  exact ⟨rfl, HEND.out _ u.below⟩
end Go.Proofs.YtmjnobdlgbojoaaDoor
