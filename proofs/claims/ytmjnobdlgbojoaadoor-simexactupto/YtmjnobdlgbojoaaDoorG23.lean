/- Book.whole. -/
import Derived.Test.YtmjnobdlgbojoaaDoorG22
namespace Go.Proofs.YtmjnobdlgbojoaaDoor
open Go.RowKit
attribute [local go_sem ↓] Go.wp_at_zero Go.wp_at_succ

theorem Stk.ints {w : World} {b0 g n c : Nat} {l : List Nat} (h : Stk w b0 (.slice (some ⟨g, 0, none⟩) n c) l) : IntsAt w (some ⟨g, 0, none⟩) l := by
  by_cases hl : l = []
  · exact .inl hl
  · obtain ⟨g', c', e, _, hc⟩ := h.len hl
    cases e
    exact .inr ⟨_, rfl, hc⟩
/-- so many numbers of so many lists are written over -/
def Ov (es : List Ent) (F : Nat → Nat → Int) (i j : Nat) : Prop := ∀ (p t : Nat) (e : Ent), es[p]? = some e → t < e.l.length → (p < i ∨ (p = i ∧ t < j)) → F p t = -(p : Int) - 1
set_option maxRecDepth 20000 in
set_option maxHeartbeats 8000000 in
theorem whole_any {b0 : Nat} {VR VW : Value} {es : List Ent} (K : Nat) (w : World) (hK : Bk b0 w K VR VW es) (hb0 : b0 ≤ w.heap.size) (hel : es.length ≤ 1000) (hll : ∀ e ∈ es, e.l.length ≤ 1048576) :
    Calls Tryd.prog 21 #[.pointer (some ⟨K, 0, none⟩)] w fun e w' => e = .returned (.bool true) ∧ Below b0 w w' := by
  obtain ⟨aR, cR, eR⟩ := hK.raw.form
  obtain ⟨aW, cW, eW⟩ := hK.was.form
  rw [List.length_map] at eR eW
  subst eR eW
  obtain ⟨n, hn⟩ : ∃ n, n = es.length := ⟨_, rfl⟩
  rw [← hn] at hK hel
  have HK : Hid (Bk b0 w K (.slice aR n cR) (.slice aW n cW) es) := hK
  have HN : Hid (n = es.length) := hn
  have HLL : Hid (∀ e ∈ es, e.l.length ≤ 1048576) := hll
  have HB0 : Hid (b0 ≤ w.heap.size) := hb0
  clear hK hn hll hb0
  go_enter Tryd.func21, Tryd.ntmps21
  go_wp2_with fail
  go_loopw [3] (fun i u => ∃ k : Nat, k ≤ n ∧ i = .int .i64 (k : Nat) ∧ Hid (Below w.heap.size w u)) (fun i _ => n - (intOf i).toNat)
  case atStart => exact ⟨0, Nat.zero_le _, rfl, Below.refl _ _⟩
  case round =>
    obtain ⟨k, hk, rfl, HB⟩ := hrel
    obtain ⟨m0, m1⟩ := (HK.out.later HB.out).blk.cells
    by_cases hlt : k < n
    · have hlt' : (k : Int) < (n : Int) := by omega
      obtain ⟨e, he⟩ : ∃ e, es[k]? = some e := ⟨_, List.getElem?_eq_getElem (by rw [← HN.out]; exact hlt)⟩
      have HU : Hid (∀ u : Later wr, Bk b0 u.at_ K (.slice aR n cR) (.slice aW n cW) es) := fun u => HK.out.later (below_trans HB.out u.below HB.out.size)
      have HR : Hid ((es.map Ent.raw)[k]? = some e.raw) := by show _ = _; rw [List.getElem?_map, he]; rfl
      have HW : Hid ((es.map Ent.was)[k]? = some e.was) := by show _ = _; rw [List.getElem?_map, he]; rfl
      obtain ⟨gR, _, er, _⟩ := HK.out.raw.nth HR.out
      obtain ⟨gW, _, ew, _⟩ := HK.out.was.nth HW.out
      obtain rfl : aR = some ⟨gR, 0, none⟩ := by cases er; rfl
      obtain rfl : aW = some ⟨gW, 0, none⟩ := by cases ew; rfl
      clear er ew
      have hne : Nonempty (Later wr) := ⟨⟨wr, Below.refl _ _⟩⟩
      have q0 : ∀ u : Later wr, u.at_.cell? ⟨K, 0, none⟩ = some (.slice (some ⟨gR, 0, none⟩) n cR) := fun u => (HU.out u).blk.cells.1
      have q1 : ∀ u : Later wr, u.at_.cell? ⟨K, 1, none⟩ = some (.slice (some ⟨gW, 0, none⟩) n cW) := fun u => (HU.out u).blk.cells.2
      have q2 : ∀ u : Later wr, u.at_.cell? ⟨gR, k, none⟩ = some (.slice (some ⟨e.g, 0, none⟩) e.l.length e.c) := fun u => by
        obtain ⟨g', c', e1, h1⟩ := (HU.out u).raw.nth HR.out
        cases e1
        exact h1
      have q3 : ∀ u : Later wr, u.at_.cell? ⟨gW, k, none⟩ = some (.slice (some ⟨e.h, 0, none⟩) e.l.length e.d) := fun u => by
        obtain ⟨g', c', e1, h1⟩ := (HU.out u).was.nth HW.out
        cases e1
        exact h1
      have HSI : Hid (∀ u : Later wr, Calls Tryd.prog 42 #[.slice (some ⟨e.g, 0, none⟩) e.l.length e.c, .slice (some ⟨e.h, 0, none⟩) e.l.length e.d] u.at_ fun e w' => e = .returned (.bool true) ∧ Below u.at_.heap.size u.at_ w') := fun u => by
        obtain ⟨s1, s2⟩ := (HU.out u).rows e (List.mem_of_getElem? he)
        exact (sameInts_any _ _ e.c e.d e.l u.at_ s1.ints s2.ints (HLL.out e (List.mem_of_getElem? he))).mono (by rintro e w' ⟨rfl, m, rfl⟩; exact ⟨rfl, rfl, rfl, rfl, Nat.le_refl _, fun _ _ => rfl⟩)
      clear he
      go_upto_region 4 with fail
      go_cut [34] from 19 to 34 (fun b wx => b = .bool false ∧ Hid (Below wr.heap.size wr wx))
      case first =>
        refine wp_region_later (by kernel_rfl) (by kernel_rfl) ?_
        repeat (first
          | go_big_quiet_step ((go_at_call 42; exact calls_later (HSI.out _)))
          | quiet_step ((go_at_call 42; exact calls_later (HSI.out _)))
          | (refine wpQuiet_step (fun K hK => ?_); go_simp; first | (refine ⟨_, fun _ => rfl, hK _ ?_⟩; clear hK K) | (refine hK _ ?_; clear hK K)))
        refine wpQuiet_nil ?_
        intro _ hw'
        obtain ⟨u, hw''⟩ := hw'
        subst hw''
        go_wp2_with fail
        go_meet
        case rel => exact ⟨rfl, u.below⟩
      case rest =>
      obtain ⟨rfl, kk⟩ := hcut
      have HB2 : Hid (Below w.heap.size w wc) := below_trans HB.out kk.out HB.out.size
      clear q0 q1 q2 q3 hne kk HB HSI HU m0 m1
      go_wp2
      go_roundw
      case rel => exact ⟨k + 1, by omega, by go_num, HB2⟩
      case measure => simp [intOf]; omega
    · have hge : ¬ (k : Int) < (n : Int) := by omega
      have HS0 : Hid (b0 ≤ wr.heap.size) := Nat.le_trans HB0.out HB.out.size
      have HW0 : Hid (∃ F, Wh b0 w wr K (.slice aR n cR) (.slice aW n cW) es F ∧ Ov es F 0 0) := ⟨_, (HK.out.later HB.out).wh (HB.out.mono HB0.out), fun p t e _ _ h => by omega⟩
      clear HB
      go_wp2_with fail
      clear m0 m1
      go_loopw [4] (fun i u => ∃ k : Nat, k ≤ n ∧ i = .int .i64 (k : Nat) ∧ Hid (∃ F, Wh b0 w u K (.slice aR n cR) (.slice aW n cW) es F ∧ Ov es F k 0)) (fun i _ => n - (intOf i).toNat)
      case atStart => exact ⟨0, Nat.zero_le _, rfl, HW0⟩
      case round =>
        clear HW0 HS0
        obtain ⟨k, hk, rfl, HW⟩ := hrel
        have m0 : wr.cell? ⟨K, 0, none⟩ = some (.slice aR n cR) := by obtain ⟨F, h1, _⟩ := HW.out; exact h1.blk.cells.1
        by_cases hlt : k < n
        · have hlt' : (k : Int) < (n : Int) := by omega
          obtain ⟨e, he⟩ : ∃ e, es[k]? = some e := ⟨_, List.getElem?_eq_getElem (by rw [← HN.out]; exact hlt)⟩
          have HE : Hid (es[k]? = some e) := he
          have HR : Hid ((es.map Ent.raw)[k]? = some e.raw) := by show _ = _; rw [List.getElem?_map, he]; rfl
          obtain ⟨gR, _, er, _⟩ := HK.out.raw.nth HR.out
          obtain rfl : aR = some ⟨gR, 0, none⟩ := by cases er; rfl
          have hel2 : e.l.length ≤ 1048576 := HLL.out e (List.mem_of_getElem? he)
          obtain ⟨q, hq⟩ : ∃ q, q = e.l.length := ⟨_, rfl⟩
          rw [← hq] at hel2
          have HQ : Hid (q = e.l.length) := hq
          have HC2 : Hid (∀ u F, Wh b0 w u K (.slice (some ⟨gR, 0, none⟩) n cR) (.slice aW n cW) es F → u.cell? ⟨gR, k, none⟩ = some (.slice (some ⟨e.g, 0, none⟩) q e.c)) := fun u F h => by
            obtain ⟨g', c', e1, h1⟩ := h.raw.nth HR.out
            cases e1
            rw [hq]
            exact h1
          clear er he hq
          go_wp2_with fail
          clear m0
          go_loopw [5] (fun i u => ∃ j : Nat, j ≤ q ∧ i = .int .i64 (j : Nat) ∧ Hid (∃ F, Wh b0 w u K (.slice (some ⟨gR, 0, none⟩) n cR) (.slice aW n cW) es F ∧ Ov es F k j)) (fun i _ => q - (intOf i).toNat)
          case atStart => exact ⟨0, Nat.zero_le _, rfl, HW⟩
          case round =>
            clear HW
            obtain ⟨j, hj, rfl, HW⟩ := hrel
            obtain ⟨F, hF, hO⟩ := HW.out
            have m0 := hF.blk.cells.1
            have m1 := HC2.out _ _ hF
            by_cases hjq : j < q
            · have hjq' : (j : Int) < (q : Int) := by omega
              obtain ⟨c0, f0⟩ := hF.cell HE.out (t := j) (by rw [← HQ.out]; exact hjq)
              have HW2 : Hid (∃ F, Wh b0 w (wr.setCell ⟨e.g, j, none⟩ (.int .i64 (-(k : Int) - 1))) K (.slice (some ⟨gR, 0, none⟩) n cR) (.slice aW n cW) es F ∧ Ov es F k (j + 1)) := by
                refine ⟨_, hF.put HE.out (-(k : Int) - 1), fun p t e' hp ht h => ?_⟩
                by_cases hpk : p = k
                · subst hpk
                  simp only [if_true]
                  by_cases htj : t = j
                  · rw [if_pos htj]
                  · rw [if_neg htj]
                    exact hO p t e' hp ht (by omega)
                · simp only [if_neg hpk]
                  exact hO p t e' hp ht (by omega)
              have w1 : IntKind.i64.wrap (-(k : Int)) = -(k : Int) := by rw [IntKind.wrap_i64]; omega
              have w2 : IntKind.i64.wrap (-(k : Int) - 1) = -(k : Int) - 1 := by rw [IntKind.wrap_i64]; omega
              clear hF hO HW
              go_wp2
              go_roundw
              case rel => exact ⟨j + 1, by omega, by go_num, HW2⟩
              case measure => simp [intOf]; omega
            · have hjq' : ¬ (j : Int) < (q : Int) := by omega
              have HW2 : Hid (∃ F, Wh b0 w wr K (.slice (some ⟨gR, 0, none⟩) n cR) (.slice aW n cW) es F ∧ Ov es F (k + 1) 0) := by
                refine ⟨F, hF, fun p t e' hp ht h => hO p t e' hp ht ?_⟩
                by_cases hpk : p = k
                · subst hpk
                  rw [HE.out] at hp
                  cases hp
                  exact .inr ⟨rfl, by rw [← HQ.out] at ht; omega⟩
                · exact .inl (by omega)
              clear hF hO HW
              go_wp2
              go_roundw
              case rel => exact ⟨k + 1, by omega, by go_num, HW2⟩
              case measure => simp [intOf]; omega
        · have hge : ¬ (k : Int) < (n : Int) := by omega
          have HW1 : Hid (∃ F, Wh b0 w wr K (.slice aR n cR) (.slice aW n cW) es F ∧ Ov es F n 0) := by
            rw [show n = k by omega]
            have h := HW.out
            rw [show n = k by omega] at h
            exact h
          clear HW
          go_wp2_with fail
          clear m0
          go_loopw [6, 7] (fun V i u => ∃ k : Nat, k ≤ n ∧ i = .int .i64 (k : Nat) ∧ ∃ VM, VM = V ∧ Hid (∃ F ms, Mo b0 w u K (.slice aR n cR) (.slice aW n cW) VM es F ms ∧ Ov es F n 0 ∧ ms.length = k)) (fun _ i _ => n - (intOf i).toNat)
          case atStart => exact ⟨0, Nat.zero_le _, rfl, _, rfl, by obtain ⟨F, h1, h2⟩ := HW1.out; exact ⟨F, [], Mo.start h1, h2, rfl⟩⟩
          case round =>
            clear HW1
            obtain ⟨k2, hk2, rfl, VM, rfl, HM⟩ := hrel
            obtain ⟨F, ms, hM, hO, rfl⟩ := HM.out
            have m0 := hM.wh.blk.cells.1
            by_cases hlt2 : ms.length < n
            · have hlt2' : (ms.length : Int) < (n : Int) := by omega
              obtain ⟨e, he⟩ : ∃ e, es[ms.length]? = some e := ⟨_, List.getElem?_eq_getElem (by rw [← HN.out]; exact hlt2)⟩
              have HE : Hid (es[ms.length]? = some e) := he
              have hel2 : e.l.length ≤ 1048576 := HLL.out e (List.mem_of_getElem? he)
              have hR : (es.map Ent.raw)[ms.length]? = some e.raw := by rw [List.getElem?_map, he]; rfl
              obtain ⟨gR, _, er, m1⟩ := hM.wh.raw.nth hR
              obtain rfl : aR = some ⟨gR, 0, none⟩ := by cases er; rfl
              unfold Ent.raw at m1
              obtain ⟨x, hx⟩ : ∃ x : Int, x = -(ms.length : Int) - 1 := ⟨_, rfl⟩
              have w1 : IntKind.i64.wrap (-(ms.length : Int)) = -(ms.length : Int) := by rw [IntKind.wrap_i64]; omega
              have w2 : IntKind.i64.wrap (-(ms.length : Int) - 1) = x := by rw [IntKind.wrap_i64]; omega
              have HX : Hid (x = -(ms.length : Int) - 1) := hx
              have hsz : b0 ≤ wr.heap.size := Nat.le_trans HB0.out hM.wh.low.size
              have kk : Below wr.heap.size wr (wr.alloc (.cells #[.int .i64 x] 3)) := (Below.refl _ _).alloc (Nat.le_refl _) _
              have HM1 : Hid (Mo b0 w (wr.alloc (.cells #[.int .i64 x] 3)) K (.slice (some ⟨gR, 0, none⟩) n cR) (.slice aW n cW) VM es F ms) := hM.later hsz kk
              have HR1 : Hid ((wr.alloc (.cells #[.int .i64 x] 3)).ownsRow b0 3 1 (.slice (some ⟨e.g, 0, none⟩) e.l.length e.c) e.l.length (Il (fun _ => x) e.l.length)) := by
                have h1 := HM1.out.wh.rows ms.length e he
                rw [Il_eq (G := fun _ => x) (fun t ht => by rw [hO ms.length t e he ht (.inl hlt2), hx])] at h1
                exact h1
              have HN1 : Hid ((wr.alloc (.cells #[.int .i64 x] 3)).cell? ((⟨wr.heap.size, 0, none⟩ : Addr).add 0) = some (.int .i64 x)) := World.news_of_block (heap_alloc_new wr _) 0 _ rfl
              have HZ1 : Hid (b0 ≤ (wr.alloc (.cells #[.int .i64 x] 3)).heap.size) := Nat.le_trans hsz kk.size
              have HO : Hid (Ov es F n 0) := hO
              have HML : Hid ((ms.map Mt.val).length ≤ 1000) := by show _ ≤ _; rw [List.length_map]; omega
              have HIN : Hid (∀ u1 : World, u1.ownsRow b0 3 1 (.slice (some ⟨e.g, 0, none⟩) e.l.length e.c) e.l.length (Il (fun _ => x) e.l.length) → (wr.alloc (.cells #[.int .i64 x] 3)).grownBy u1 (some e.g) → ∀ g' q c', Mo b0 w (u1.alloc (.cells #[.slice (some ⟨g', 0, none⟩) q c'] 39)) K (.slice (some ⟨gR, 0, none⟩) n cR) (.slice aW n cW) VM es F ms) := by
                intro u1 h1 hg g' q c'
                have h2 : Mo b0 w u1 K (.slice (some ⟨gR, 0, none⟩) n cR) (.slice aW n cW) VM es F ms := by
                  refine HM1.out.inner HE.out ?_ hg (below_grew hg HZ1.out (fun k e1 => by cases e1; exact (HM1.out.wh.ty HE.out).1))
                  rw [Il_eq (G := fun _ => x) (fun t ht => by rw [HO.out ms.length t e HE.out ht (.inl hlt2), HX.out])]
                  exact h1
                exact h2.later (Nat.le_trans HZ1.out hg.size) ((Below.refl _ _).alloc (Nat.le_refl _) _)
              have HZI : Hid (∀ u1 : World, (wr.alloc (.cells #[.int .i64 x] 3)).grownBy u1 (some e.g) → ∀ g' q c', b0 ≤ (u1.alloc (.cells #[.slice (some ⟨g', 0, none⟩) q c'] 39)).heap.size) := by
                intro u1 hg g' q c'
                have kk2 : Below u1.heap.size u1 (u1.alloc (.cells #[.slice (some ⟨g', 0, none⟩) q c'] 39)) := (Below.refl _ _).alloc (Nat.le_refl _) _
                exact Nat.le_trans HZ1.out (Nat.le_trans hg.size kk2.size)
              clear er hx kk hM HM hO hR he
              go_upto_region 16 with (at_builtin; first
                | (refine wpList_append_num rfl _ _ rfl b0 e.g e.l.length e.c (Il (fun _ => x) e.l.length) HR1.out rfl ⟨wr.heap.size, 0, none⟩ _ x rfl HN1.out hel2 HZ1.out ?_; intro g' c' u1 hn1 ho1 hg1 hor1; have HN2 : Hid (u1.ownsRow b0 3 1 (.slice (some ⟨g', 0, none⟩) (e.l.length + 1) c') (e.l.length + 1) (Il (fun _ => x) e.l.length ++ [.int .i64 x])) := hn1; have HO2 : Hid (u1.ownsRow b0 3 1 (.slice (some ⟨e.g, 0, none⟩) e.l.length e.c) e.l.length (Il (fun _ => x) e.l.length)) := ho1; have HG2 : Hid ((wr.alloc (.cells #[.int .i64 x] 3)).grownBy u1 (some e.g)) := hg1; have HOR : Hid (e.g = g' ∨ g' = (wr.alloc (.cells #[.int .i64 x] 3)).heap.size) := hor1; clear hn1 ho1 hg1 hor1; have HM3 : Hid (Mo b0 w (u1.alloc (.cells #[.slice (some ⟨g', 0, none⟩) (e.l.length + 1) c'] 39)) K (.slice (some ⟨gR, 0, none⟩) n cR) (.slice aW n cW) VM es F ms) := HIN.out _ HO2.out HG2.out g' (e.l.length + 1) c'; have HN3 : Hid ((u1.alloc (.cells #[.slice (some ⟨g', 0, none⟩) (e.l.length + 1) c'] 39)).cell? ((⟨u1.heap.size, 0, none⟩ : Addr).add 0) = some (.slice (some ⟨g', 0, none⟩) (e.l.length + 1) c')) := World.news_of_block (heap_alloc_new u1 _) 0 _ rfl; have HZ3 : Hid (b0 ≤ (u1.alloc (.cells #[.slice (some ⟨g', 0, none⟩) (e.l.length + 1) c'] 39)).heap.size) := HZI.out _ HG2.out g' (e.l.length + 1) c')
                | (refine wpList_append_one rfl _ _ rfl b0 VM (ms.map Mt.val) HM3.out.more HZ3.out HML.out rfl ⟨u1.heap.size, 0, none⟩ 1 _ _ _ rfl HN3.out ?_; intro G C u2 hr2 hg2 hor2; have HR4 : Hid (RowV 39 u2 b0 (.slice (some ⟨G, 0, none⟩) ((ms.map Mt.val).length + 1) C) (ms.map Mt.val ++ [.slice (some ⟨g', 0, none⟩) (e.l.length + 1) c'])) := hr2; have HG4 : Hid ((u1.alloc (.cells #[.slice (some ⟨g', 0, none⟩) (e.l.length + 1) c'] 39)).grownBy u2 VM.ownBlock) := hg2; have HOR4 : Hid (VM.ownBlock = some G ∨ G = (u1.alloc (.cells #[.slice (some ⟨g', 0, none⟩) (e.l.length + 1) c'] 39)).heap.size) := hor2; clear hr2 hg2 hor2))
              rw [List.length_map] at HR4
              have HM5 : Hid (∃ F ms', Mo b0 w u2 K (.slice (some ⟨gR, 0, none⟩) n cR) (.slice aW n cW) (.slice (some ⟨G, 0, none⟩) (ms.length + 1) C) es F ms' ∧ Ov es F n 0 ∧ ms'.length = ms.length + 1) := by
                have hn := HN2.out
                rw [Il_more, HX.out] at hn
                have hn3 := ownsRow_keep hn (fun g _ _ hlt => ((Below.refl u1.heap.size u1).alloc (Nat.le_refl _) (.cells #[.slice (some ⟨g', 0, none⟩) (e.l.length + 1) c'] 39)).block g hlt)
                refine ⟨F, _, HM3.out.outer HE.out hn3 ?_ HR4.out HG4.out HOR4.out (below_grew HG4.out HZ3.out (fun k e1 => (HM3.out.more.ty k e1).1)), HO.out, by simp⟩
                rcases HOR.out with h1 | h1
                · exact .inl h1.symm
                · refine .inr ⟨fun m hm hmg => ?_, fun e' he' heg => ?_⟩
                  · obtain ⟨p, hp⟩ := List.getElem?_of_mem hm
                    have := (HM1.out.ty hp).lt
                    omega
                  · obtain ⟨p, hp⟩ := List.getElem?_of_mem he'
                    have := (HM1.out.wh.ty hp).2.lt
                    omega
              clear HR4 HG4 HOR4 HN2 HO2 HG2 HOR HM3 HN3 HZ3 HIN HZI HML HM1 HR1 HN1 HZ1 HO HX m0 m1
              go_wp2
              go_roundw
              case rel => exact ⟨ms.length + 1, by omega, by go_num, _, rfl, HM5⟩
              case measure => simp [intOf]; omega
            · have hge2 : ¬ (ms.length : Int) < (n : Int) := by omega
              have HM1 : Hid (Mo b0 w wr K (.slice aR n cR) (.slice aW n cW) VM es F ms) := hM
              have HO : Hid (Ov es F n 0) := hO
              have hmn : ms.length = n := by omega
              clear hM hO HM
              go_wp2_with fail
              obtain ⟨w5, hw5⟩ : ∃ w5 : World, w5 = wr := ⟨_, rfl⟩
              subst hw5
              obtain ⟨aM, cM, eM⟩ := HM1.out.more.form
              rw [List.length_map, hmn] at eM
              subst eM
              have HMN : Hid (ms.length = n) := hmn
              clear hmn
              clear m0
              go_loopw [8] (fun i u => ∃ k : Nat, k ≤ n ∧ i = .int .i64 (k : Nat) ∧ Hid (u = w5)) (fun i _ => n - (intOf i).toNat)
              case atStart => exact ⟨0, Nat.zero_le _, rfl, rfl⟩
              case round =>
                obtain ⟨k5, hk5, rfl, HU⟩ := hrel
                have h0 := HU.out
                subst h0
                clear HU
                by_cases h5 : k5 < n
                · have h5' : (k5 : Int) < (n : Int) := by omega
                  obtain ⟨e, he⟩ : ∃ e, es[k5]? = some e := ⟨_, List.getElem?_eq_getElem (by rw [← HN.out]; exact h5)⟩
                  obtain ⟨m, hm⟩ : ∃ m, ms[k5]? = some m := ⟨_, List.getElem?_eq_getElem (by rw [HMN.out]; exact h5)⟩
                  have hR : (es.map Ent.raw)[k5]? = some e.raw := by rw [List.getElem?_map, he]; rfl
                  have hS : (ms.map Mt.val)[k5]? = some m.val := by rw [List.getElem?_map, hm]; rfl
                  obtain ⟨gR, _, er, m1⟩ := HM1.out.wh.raw.nth hR
                  obtain ⟨gM, _, em, m2⟩ := HM1.out.more.nth hS
                  obtain rfl : aR = some ⟨gR, 0, none⟩ := by cases er; rfl
                  obtain rfl : aM = some ⟨gM, 0, none⟩ := by cases em; rfl
                  unfold Ent.raw at m1
                  unfold Mt.val at m2
                  have hel2 : e.l.length ≤ 1048576 := HLL.out e (List.mem_of_getElem? he)
                  obtain ⟨q, hq⟩ : ∃ q, q = e.l.length := ⟨_, rfl⟩
                  rw [← hq] at m1 hel2
                  rw [HM1.out.len k5 m e hm he, ← hq] at m2
                  have HQ : Hid (q = e.l.length) := hq
                  have HE : Hid (es[k5]? = some e) := he
                  have HMM : Hid (ms[k5]? = some m) := hm
                  have HMQ : Hid (m.n = q + 1) := by show _ = _; rw [HM1.out.len k5 m e hm he, hq]
                  have m0 := HM1.out.wh.blk.cells.1
                  clear er em hq he hm hR hS
                  go_wp2_with fail
                  obtain ⟨w6, hw6⟩ : ∃ w6 : World, w6 = wr := ⟨_, rfl⟩
                  subst hw6
                  go_loopw [9] (fun i u => ∃ j : Nat, j ≤ q + 1 ∧ i = .int .i64 (j : Nat) ∧ Hid (u = w6)) (fun i _ => q + 1 - (intOf i).toNat)
                  case atStart => exact ⟨0, Nat.zero_le _, rfl, rfl⟩
                  case round =>
                    obtain ⟨j, hj, rfl, HU⟩ := hrel
                    have h0 := HU.out
                    subst h0
                    clear HU
                    have w1 : IntKind.i64.wrap (-(k5 : Int)) = -(k5 : Int) := by rw [IntKind.wrap_i64]; omega
                    have w2 : IntKind.i64.wrap (-(k5 : Int) - 1) = -(k5 : Int) - 1 := by rw [IntKind.wrap_i64]; omega
                    by_cases hjq : j < q + 1
                    · have hjq' : (j : Int) < (q : Int) + 1 := by omega
                      have m3 := HM1.out.cell HMM.out (t := j) (by rw [HMQ.out]; exact hjq)
                      by_cases hj2 : j < q
                      · have hj2' : (j : Int) < (q : Int) := by omega
                        have m4 := (HM1.out.wh.cell HE.out (t := j) (by rw [← HQ.out]; exact hj2)).1
                        rw [HO.out k5 j e HE.out (by rw [← HQ.out]; exact hj2) (.inl h5)] at m4
                        go_wp2
                        go_roundw
                        case rel => exact ⟨j + 1, by omega, by go_num, trivial⟩
                        case measure => simp [intOf]; omega
                      · have hj2' : ¬ (j : Int) < (q : Int) := by omega
                        go_wp2
                        go_roundw
                        case rel => exact ⟨j + 1, by omega, by go_num, trivial⟩
                        case measure => simp [intOf]; omega
                    · have hjq' : ¬ (j : Int) < (q : Int) + 1 := by omega
                      go_wp2
                      go_roundw
                      case rel => exact ⟨k5 + 1, by omega, by go_num, trivial⟩
                      case measure => simp [intOf]; omega
                · have hge5 : ¬ (k5 : Int) < (n : Int) := by omega
                  have hlow := HM1.out.wh.low
                  go_wp2_with fail
                  go_ret
                  exact ⟨rfl, hlow⟩
end Go.Proofs.YtmjnobdlgbojoaaDoor
