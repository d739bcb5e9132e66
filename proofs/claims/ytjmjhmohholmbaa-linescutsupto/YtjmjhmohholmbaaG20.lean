/- LinesCuts: the walk. -/
import Derived.Test.YtjmjhmohholmbaaG19
namespace Go.Proofs.Ytjmjhmohholmbaa
open Go.RowKit Go.Maps Ln
attribute [local go_sem ↓] Go.wp_at_zero Go.wp_at_succ

def stK (y : Nat) (b : List UInt8) (k : Nat) : St := (St.mk [] [] 0).go y (b.take k)
theorem stK_zero (y : Nat) (b : List UInt8) : stK y b 0 = ⟨[], [], 0⟩ := rfl
theorem stK_succ {y : Nat} {b : List UInt8} {k : Nat} {c : UInt8} (h : b[k]? = some c) : stK y b (k + 1) = St.step y (stK y b k) c := by
  unfold stK
  rw [List.take_add_one, h, St.go_append]
  rfl
theorem stK_all (y : Nat) (b : List UInt8) : stK y b b.length = (St.mk [] [] 0).go y b := by unfold stK; rw [List.take_length]
/-- WHAT THE FIRST LOOP HAS: the bytes from 'from' on are the line under way -/
structure CI (w : World) (y : Nat) (b : List UInt8) (k fr : Nat) (VW : Value) (u : World) : Prop where
  eu : (stK y b k).u = (b.drop fr).take (k - fr)
  f : fr ≤ k
  ul : (stK y b k).u.length + fr = k
  l : u.ownsRow w.heap.size 9 1 VW (stK y b k).ls.length (sv (stK y b k).ls)
  lo : Below w.heap.size w u
theorem stK_bounds (y : Nat) (b : List UInt8) (k : Nat) : (stK y b k).ls.length + (stK y b k).lg ≤ b.length := by
  have h := (St.go_bounds y (b.take k) (St.mk [] [] 0)).1
  have h2 : (b.take k).length ≤ b.length := by rw [List.length_take]; omega
  unfold stK
  simp only [List.length_nil] at h
  omega
/-- WHAT THE SECOND LOOP HAS -/
structure CJ (w : World) (VW : Value) (W : List (List UInt8)) (A A1 : Nat) (ca : Option Addr) (M cc : Nat) (u : World) : Prop where
  lo : Below w.heap.size w u
  l : u.ownsRow w.heap.size 9 1 VW W.length (sv W)
  r : LAt u (.slice (some ⟨A, 0, none⟩) 3 3) [.slice ca M cc, .slice (some ⟨A1, 0, none⟩) 1 1, .slice none 0 0]
  o : LAt u (.slice (some ⟨A1, 0, none⟩) 1 1) (ints [1])
theorem CJ.later {w u v : World} {VW : Value} {W : List (List UInt8)} {A A1 M cc : Nat} {ca : Option Addr} (h : CJ w VW W A A1 ca M cc u) (hb : Below u.heap.size u v) : CJ w VW W A A1 ca M cc v :=
  ⟨below_step h.lo hb, ownsRow_keep h.l (fun b _ _ hl => hb.block b hl), h.r.later hb, h.o.later hb⟩
theorem CJ.at {w u : World} {VW : Value} {W : List (List UInt8)} {A A1 M cc : Nat} {ca : Option Addr} {cs : List Int} (h : CJ w VW W A A1 ca M cc u) (hc : LAt w (.slice ca M cc) (ints cs)) (hM : cs.length = M) (hM2 : M ≤ 1048576) {k : Nat} (hk : k < 3) :
    ∃ xa xm xc cs', u.cell? ⟨A, k, none⟩ = some (.slice xa xm xc) ∧ LAt u (.slice xa xm xc) (ints cs') ∧ cs'.length = xm ∧ xm ≤ 1048576 := by
  obtain ⟨_, _, e0, _, _, hx⟩ := h.r.open
  have hg : ∀ v, [Value.slice ca M cc, .slice (some ⟨A1, 0, none⟩) 1 1, .slice none 0 0][k]? = some v → u.cell? ⟨A, k, none⟩ = some v := fun v hv => by
    obtain ⟨b', o', e2, h2⟩ := hx k v hv
    obtain ⟨e1, _, _⟩ := Value.slice.inj e0
    rw [e2] at e1
    cases e1
    rw [Nat.zero_add] at h2
    exact h2
  match k, hk with
  | 0, _ => exact ⟨_, _, _, cs, hg _ rfl, hc.later h.lo, hM, hM2⟩
  | 1, _ => exact ⟨_, _, _, [1], hg _ rfl, h.o, rfl, by omega⟩
  | 2, _ => exact ⟨_, _, _, [], hg _ rfl, lat_nil u, rfl, by omega⟩
set_option maxRecDepth 8000 in
set_option maxHeartbeats 4000000 in
theorem cuts_any {w : World} {z : Int} {N M yc cc : Nat} {ya ca : Option Addr} {b : List UInt8} {cs : List Int} (h1 : LAt w (.slice ya N yc) (uv b)) (h2 : LAt w (.slice ca M cc) (ints cs)) (hN : b.length = N) (hM : cs.length = M) (hl1 : N ≤ 1048576) (hl2 : M ≤ 1048576) :
    Calls Try.prog 3 #[.int .i64 z, .slice ya N yc, .slice ca M cc] w fun e w' => e = .returned (.bool true) ∧ Below w.heap.size w w' := by
  have hp1 : ∀ (p : Option Addr) (u : World), (binOp .eql 28 (.pointer p) (.pointer none)).run Try.prog u = .ok (.bool p.isNone) u := fun p u => run_eql_pointer_nil u _ p (by kernel_rfl)
  have HA : Hid (LAt w (.slice ya N yc) (uv b) ∧ LAt w (.slice ca M cc) (ints cs) ∧ b.length = N ∧ cs.length = M) := ⟨h1, h2, hN, hM⟩
  have HK : Hid (Calls Try.prog 6 #[] w _) := known_fn w
  clear h1 h2 hN hM
  obtain ⟨Y, hq, hY⟩ := most_of z
  go_enter Try.func3, Try.ntmps3
  go_wp2_with fail
  refine HK.out.mono ?_
  rintro e w1 ⟨rfl, k1⟩
  have HK1 : Hid (Below w.heap.size w w1) := k1
  clear HK k1
  go_wp2_with fail
  go_loopw [7, 8, 9, 27] (fun l g f i u => ∃ k fr : Nat, k ≤ N ∧ i = .int .i64 (k : Nat) ∧ f = .int .i64 (fr : Nat) ∧ g = .int .i64 ((stK Y b k).lg : Nat) ∧ Hid (CI w Y b k fr l u)) (fun _ _ _ i _ => N - (intOf i).toNat)
  case atStart => exact ⟨0, 0, Nat.zero_le _, rfl, rfl, rfl, rfl, Nat.le_refl _, rfl, owns_nil _ _ 9, HK1.out⟩
  case round =>
  obtain ⟨k, fr, hk, rfl, rfl, rfl, HI⟩ := hrel
  clear HK1
  obtain ⟨l1, l2, hl⟩ := own_form HI.out.l
  subst hl
  obtain ⟨lg, hlg⟩ : ∃ lg, (stK Y b k).lg = lg := ⟨_, rfl⟩
  have HLG : Hid ((stK Y b k).lg = lg) := hlg
  obtain ⟨nl, hnl⟩ : ∃ nl, (stK Y b k).ls.length = nl := ⟨_, rfl⟩
  have HNL : Hid ((stK Y b k).ls.length = nl) := hnl
  rw [hlg, hnl]
  have hbd : nl + lg ≤ 1048576 := by have := stK_bounds Y b k; have := HA.out.2.2.1; omega
  have hfk : (fr : Int) ≤ (k : Int) := by have := HI.out.f; omega
  clear hlg hnl
  by_cases hlt : k < N
  · obtain ⟨c, hc⟩ : ∃ c, b[k]? = some c := ⟨_, List.getElem?_eq_getElem (by rw [HA.out.2.2.1]; exact hlt)⟩
    have HLA : Hid (LAt wr (.slice ya N yc) (uv b)) := HA.out.1.later HI.out.lo
    obtain ⟨_, _, e0, hyc, hyc2, g1⟩ := HLA.out.open
    obtain ⟨bb, off, e4, hcell⟩ := g1 k _ (uv_at hc)
    obtain ⟨x1, x2, x3⟩ := Value.slice.inj e0
    have hyc : N ≤ yc := by omega
    obtain rfl : ya = some ⟨bb, off, none⟩ := x1.trans e4
    clear x1 x2 x3 e4
    have HC : Hid (b[k]? = some c) := hc
    clear g1 e0 hc hyc2
    by_cases e : c = 10
    · subst e
      have hcell : wr.cell? ⟨bb, off + k, none⟩ = some (.int .u8 10) := hcell
      by_cases hty : (Y : Int) < (k : Int) - (fr : Int)
      · have HS : Hid (stK Y b (k + 1) = ⟨(stK Y b k).ls, [], lg + 1⟩) := by
          show _ = _
          rw [stK_succ HC.out]
          unfold St.step
          rw [if_pos rfl, if_neg (by have := HI.out.ul; omega), HLG.out]
        go_wp2
        go_roundw
        case rel => exact ⟨k + 1, k + 1, by omega, by go_num, by go_num, by rw [HS.out]; go_num, by
          refine ⟨?_, Nat.le_refl _, ?_, ?_, HI.out.lo⟩
          · rw [HS.out]; simp
          · rw [HS.out]; simp
          · rw [HS.out]
            have := HI.out.l
            rw [HNL.out] at this ⊢
            exact this⟩
        case measure => simp [intOf]; omega
      · have hk0 : (k : Int) ≤ (N : Int) := by omega
        have HLT : Hid (LAt wr (.slice (some ⟨bb, off + fr, none⟩) (k - fr) (yc - fr)) (uv ((b.drop fr).take (k - fr)))) := by
          have h := HLA.out.drop (k := fr) rfl (by omega)
          rw [uv_take, uv_drop]
          exact h.take rfl (by omega)
        obtain ⟨ln, hln⟩ : ∃ ln, (stK Y b k).u = ln := ⟨_, rfl⟩
        have hcv : (convert 22 9 (.slice (some ⟨bb, off + fr, none⟩) (k - fr) (yc - fr))).run Try.prog wr = .ok (.string ⟨ln.toArray⟩) wr := by
          have h := conv_uv HLT.out
          rw [← HI.out.eu, hln] at h
          exact h
        have HS : Hid (stK Y b (k + 1) = ⟨(stK Y b k).ls ++ [ln], [], lg⟩) := by
          show _ = _
          rw [stK_succ HC.out]
          unfold St.step
          rw [if_pos rfl, if_pos (by have := HI.out.ul; omega), HLG.out, hln]
        have hyf : ¬ yc = fr := by omega
        obtain ⟨w5, hw5⟩ : ∃ w5, wr.alloc (.cells #[.string ⟨ln.toArray⟩] 9) = w5 := ⟨_, rfl⟩
        have k9 : Below wr.heap.size wr w5 := by rw [← hw5]; exact (Below.refl _ _).alloc (Nat.le_refl _) _
        have HI5 : Hid (w5.ownsRow w.heap.size 9 1 (.slice l1 nl l2) nl (sv (stK Y b k).ls) ∧ LAt w5 (.slice (some ⟨wr.heap.size, 0, none⟩) 1 1) [.string ⟨ln.toArray⟩] ∧ Below w.heap.size w w5) := ⟨by have := ownsRow_keep HI.out.l (fun b _ _ hl => k9.block b hl); rw [HNL.out] at this; exact this, by rw [← hw5]; exact lat_lit wr _ _ _, below_step HI.out.lo k9⟩
        clear k9 hln HLT
        subst hw5
        go_wp2_with (refine wpList_append_lat rfl (.tmp 42) (.tmp 48) rfl (.string ⟨#[]⟩) 16 (by kernel_rfl) infS rfl w.heap.size _ nl (sv (stK Y b k).ls) rfl HI5.out.1 _ [.string ⟨ln.toArray⟩] rfl HI5.out.2.1 (fun u hu => by simp at hu; subst hu; rfl) (by simp only [List.length_singleton]; unfold maxLen; omega) (by simp only [List.length_singleton]; omega) HI5.out.2.2.size ?_; intro V' w' ho' hgr hnl hh; obtain ⟨v1, v2, rfl⟩ := own_form ho'; have HI6 : Hid (w'.ownsRow w.heap.size 9 1 (.slice v1 (nl + 1) v2) (nl + 1) (sv (stK Y b k).ls ++ [.string ⟨ln.toArray⟩]) ∧ Below w.heap.size w w') := ⟨ho', HI5.out.2.2.grown hgr HI5.out.2.2.size (fun k hk => (row_ty HI5.out.1 hk).2.2)⟩; clear hnl ho' hgr hh)
        go_roundw
        case rel => exact ⟨k + 1, k + 1, by omega, by go_num, by go_num, by rw [HS.out], by
          refine ⟨?_, Nat.le_refl _, ?_, ?_, HI6.out.2⟩
          · rw [HS.out]; simp
          · rw [HS.out]; simp
          · rw [HS.out]
            show World.ownsRow _ _ _ _ _ ((stK Y b k).ls ++ [ln]).length (sv ((stK Y b k).ls ++ [ln]))
            rw [List.length_append, HNL.out, show sv ((stK Y b k).ls ++ [ln]) = sv (stK Y b k).ls ++ [.string ⟨ln.toArray⟩] by simp [sv]]
            exact HI6.out.1⟩
        case measure => simp [intOf]; omega
    · have hne : ¬ (c.toNat : Int) = 10 := u8_ten e
      have HS : Hid (stK Y b (k + 1) = ⟨(stK Y b k).ls, (stK Y b k).u ++ [c], lg⟩) := by
        show _ = _
        rw [stK_succ HC.out]
        unfold St.step
        rw [if_neg e, HLG.out]
      go_wp2
      go_roundw
      case rel => exact ⟨k + 1, fr, by omega, by go_num, rfl, by rw [HS.out], by
        refine ⟨?_, by have := HI.out.f; omega, ?_, ?_, HI.out.lo⟩
        · rw [HS.out]
          show (stK Y b k).u ++ [c] = _
          have hf := HI.out.f
          rw [HI.out.eu, show k + 1 - fr = (k - fr) + 1 by omega, List.take_add_one, List.getElem?_drop, show fr + (k - fr) = k by omega, HC.out]
          rfl
        · rw [HS.out]
          show ((stK Y b k).u ++ [c]).length + fr = k + 1
          have := HI.out.ul
          rw [List.length_append, List.length_singleton]
          omega
        · rw [HS.out]
          have := HI.out.l
          rw [HNL.out] at this ⊢
          exact this⟩
      case measure => simp [intOf]; omega
  · obtain rfl : k = N := by omega
    have HB : Hid (stK Y b k = (St.mk [] [] 0).go Y b) := by show _ = _; rw [← HA.out.2.2.1]; exact stK_all Y b
    obtain ⟨A1, hA1⟩ : ∃ A1, wr.heap.size = A1 := ⟨_, rfl⟩
    have HA1 : Hid (wr.heap.size = A1) := hA1
    obtain ⟨w2, hw2⟩ : ∃ w2, (wr.alloc (.cells #[.int .i64 1] 3)).alloc (.cells #[.slice ca M cc, .slice (some ⟨A1, 0, none⟩) 1 1, .slice none 0 0] 23) = w2 := ⟨_, rfl⟩
    have HW2 : Hid ((wr.alloc (.cells #[.int .i64 1] 3)).alloc (.cells #[.slice ca M cc, .slice (some ⟨A1, 0, none⟩) 1 1, .slice none 0 0] 23) = w2) := hw2
    have HJ : Hid (CJ w (.slice l1 nl l2) (stK Y b k).ls (A1 + 1) A1 ca M cc w2) := by
      have k1 : Below wr.heap.size wr (wr.alloc (.cells #[.int .i64 1] 3)) := (Below.refl _ _).alloc (Nat.le_refl _) _
      have k2 : Below (wr.alloc (.cells #[.int .i64 1] 3)).heap.size (wr.alloc (.cells #[.int .i64 1] 3)) w2 := by rw [← hw2]; exact (Below.refl _ _).alloc (Nat.le_refl _) _
      have kk := below_step k1 k2
      have o1 := lat_lit wr (.int .i64 1) 3 (0, 0)
      rw [hA1] at o1
      refine ⟨below_step HI.out.lo kk, ?_, ?_, o1.later k2⟩
      · have := ownsRow_keep HI.out.l (fun b _ _ hl => kk.block b hl)
        rw [HNL.out] at this ⊢
        exact this
      · rw [← hw2]
        refine ⟨_, 3, rfl, Nat.le_refl _, by omega, .inr ⟨A1 + 1, 0, rfl, fun j v hv => ?_⟩⟩
        have e1 : (wr.alloc (.cells #[.int .i64 1] 3)).heap.size = A1 + 1 := by simp [hA1]
        rw [← e1, World.cell?_alloc_mark]
        simpa using hv
    have HU : Hid ((stK Y b k).u.length + fr = k) := HI.out.ul
    clear hA1 hw2 HI
    go_upto_region 16 with fail
    rw [HA1.out, HW2.out]
    clear HA1 HW2
    obtain ⟨ul, hul⟩ : ∃ ul, (stK Y b k).u.length = ul := ⟨_, rfl⟩
    have HST : Hid ((stK Y b k).u.length = ul ∧ (stK Y b k).ls.length = nl ∧ (stK Y b k).lg = lg ∧ stK Y b k = (St.mk [] [] 0).go Y b ∧ ul + fr = k) := ⟨hul, HNL.out, HLG.out, HB.out, by rw [← hul]; exact HU.out⟩
    obtain ⟨W, hW⟩ : ∃ W, (stK Y b k).ls = W := ⟨_, rfl⟩
    have HWW : Hid ((stK Y b k).ls = W ∧ W.length = nl) := ⟨hW, by rw [← hW]; exact HNL.out⟩
    rw [hW] at HJ
    have hkf : (k : Int) - (fr : Int) = (ul : Int) := by have := HST.out.2.2.2.2; omega
    clear hul hW HNL HLG HU HB hlt hk
    go_loopw [57] (fun i u => ∃ j : Nat, j ≤ 3 ∧ i = .int .i64 (j : Nat) ∧ Hid (CJ w (.slice l1 nl l2) W (A1 + 1) A1 ca M cc u)) (fun i _ => 3 - (intOf i).toNat)
    case atStart => exact ⟨0, by omega, rfl, HJ.out⟩
    case round =>
    obtain ⟨j, hj, rfl, HI⟩ := hrel
    clear HJ
    by_cases hj3 : j < 3
    · have hj3' : (j : Int) < 3 := by omega
      obtain ⟨xa, xm, xc, cs', hcell, hx, hxm, hxb⟩ := HI.out.at HA.out.2.1 HA.out.2.2.2 hl2 hj3
      have HX : Hid (LAt wr (.slice xa xm xc) (ints cs') ∧ cs'.length = xm) := ⟨hx, hxm⟩
      have HN : Hid (Calls Try.prog 7 #[.int .i64 (Y : Nat)] wr _) := new_yes wr hY
      clear hx hxm
      go_wp2_with fail
      refine HN.out.mono ?_
      rintro e w3 ⟨rfl, m3, k3⟩
      obtain ⟨B, hB⟩ : ∃ B, wr.heap.size = B := ⟨_, rfl⟩
      rw [hB] at m3 ⊢
      have H3 : Hid (MkAt w3 B (.slice none 0 0) (mk0 Y) ∧ Below wr.heap.size wr w3 ∧ wr.heap.size = B) := ⟨m3, k3, hB⟩
      have H1 : Hid (Calls Try.prog 8 #[.int .i64 0] w3 _) := num_fn 0 w3
      have HF : Hid (Calls Try.prog 9 #[.pointer (some ⟨B, 0, none⟩), .slice ya k yc, .slice xa xm xc, .int .i64 (Y : Nat)] w3 (FedPost w3 B (.slice none 0 0) (mk0 Y) b)) := by
        have hst : ∀ x, Fm B (.slice none 0 0) w3 x → Below wr.heap.size wr x := fun x hx => ⟨hx.os.trans k3.os, hx.tape.trans k3.tape, hx.output.trans k3.output, Nat.le_trans k3.size hx.size, fun q hq => (hx.block q (Nat.lt_of_lt_of_le hq k3.size) (fun e => by
          rcases e with e | e
          · omega
          · cases e)).trans (k3.block q hq)⟩
        exact fed_fn m3 HA.out.2.2.1 HX.out.2 rfl hY (fun x hx => HA.out.1.later (below_step HI.out.lo (hst x hx))) (fun x hx => HX.out.1.later (hst x hx)) hl1 hxb (Nat.zero_le _) (Nat.zero_le _)
      clear m3 k3 hB HN hcell
      go_wp2_with fail
      refine H1.out.mono ?_
      rintro e wx ⟨rfl, hwx⟩
      rw [hwx]
      clear hwx H1
      go_wp2_with fail
      refine HF.out.mono ?_
      rintro e w4 ⟨VL, L, m4, V4, rfl, hI4⟩
      have HJ4 : Hid (CJ w (.slice l1 nl l2) W (A1 + 1) A1 ca M cc w4) := HI.out.later (by
        have hx := hI4.fr
        have k3 := H3.out.2.1
        have hB := H3.out.2.2
        exact ⟨hx.os.trans k3.os, hx.tape.trans k3.tape, hx.output.trans k3.output, Nat.le_trans k3.size hx.size, fun q hq => (hx.block q (Nat.lt_of_lt_of_le hq k3.size) (fun e => by
          rcases e with e | e
          · omega
          · cases e)).trans (k3.block q hq)⟩)
      obtain ⟨t1, t2⟩ := hI4.told
      have t1 : L = ((St.mk [] [] 0).go Y b).ls := t1
      have t2 : m4 = ⟨((St.mk [] [] 0).go Y b).u, Y, 0 + ((St.mk [] [] 0).go Y b).lg⟩ := t2
      rw [← HST.out.2.2.2.1] at t1 t2
      rw [HST.out.2.2.1, Nat.zero_add] at t2
      rw [HWW.out.1] at t1
      subst t1
      have HMK : Hid (MkAt w4 B V4 m4) := hI4.k
      have HBG : Hid (Calls Try.prog 11 #[.pointer (some ⟨B, 0, none⟩)] w4 _) := begun_fn hI4.k.b
      have HLN : Hid (Calls Try.prog 10 #[.pointer (some ⟨B, 0, none⟩)] w4 _) := long_fn hI4.k.b
      rw [show m4.u.length = ul by rw [t2]; exact HST.out.1] at HBG
      rw [show m4.long = lg by rw [t2]] at HLN
      have HHL : Hid (m4.held.length = if ul ≤ Y then ul else 0) := by
        show _ = _
        unfold Mk.held
        rw [show m4.most = Y by rw [t2], show m4.u.length = ul by rw [t2]; exact HST.out.1]
        split
        · rw [t2]; exact HST.out.1
        · rfl
      obtain ⟨v1, v2, hvl⟩ := own_form hI4.l
      subst hvl
      have HR4 : Hid (LAt w4 (.slice v1 nl v2) (sv L)) := by have := owns_lat hI4.l; rw [HWW.out.2] at this; exact this
      rw [HWW.out.2]
      clear HF hI4 t2
      go_wp2_with fail
      refine HLN.out.mono ?_
      rintro e wx ⟨rfl, hwx⟩
      rw [hwx]
      clear hwx HLN
      go_wp2_with fail
      refine HBG.out.mono ?_
      rintro e wx ⟨rfl, hwx⟩
      rw [hwx]
      clear hwx HBG
      have H0 : Hid (CJ w (.slice l1 nl l2) L (A1 + 1) A1 ca M cc w4 ∧ MkAt w4 B V4 m4 ∧ LAt w4 (.slice v1 nl v2) (sv L)) := ⟨HJ4.out, HMK.out, HR4.out⟩
      clear HJ4 HMK HR4 HI H3 HX
      go_wp2_with fail
      go_loopw [107] (fun i u => ∃ q : Nat, q ≤ nl ∧ i = .int .i64 (q : Nat) ∧ Hid (CJ w (.slice l1 nl l2) L (A1 + 1) A1 ca M cc u ∧ MkAt u B V4 m4 ∧ LAt u (.slice v1 nl v2) (sv L))) (fun i _ => nl - (intOf i).toNat)
      case atStart => exact ⟨0, Nat.zero_le _, rfl, H0.out⟩
      case round =>
      obtain ⟨q, hq', rfl, HI⟩ := hrel
      clear H0
      by_cases hqn : q < nl
      · obtain ⟨t, ht⟩ : ∃ t, L[q]? = some t := ⟨_, List.getElem?_eq_getElem (by rw [HWW.out.2]; exact hqn)⟩
        have hs : (sv L)[q]? = some (.string ⟨t.toArray⟩) := by unfold sv; rw [List.getElem?_map, ht]; rfl
        obtain ⟨_, _, e1, _, _, g1⟩ := (owns_lat HI.out.1.l).open
        obtain ⟨b1, o1, f1, q1⟩ := g1 q _ hs
        obtain ⟨_, _, e2, _, _, g2⟩ := HI.out.2.2.open
        obtain ⟨b2, o2, f2, q2⟩ := g2 q _ hs
        obtain ⟨rfl, -, -⟩ := Value.slice.inj e1
        obtain ⟨rfl, -, -⟩ := Value.slice.inj e2
        subst f1 f2
        obtain ⟨st, hst⟩ : ∃ st : ByteArray, ⟨t.toArray⟩ = st := ⟨_, rfl⟩
        rw [hst] at q1 q2
        clear hst hs ht g1 g2 e1 e2
        go_upto_region 27 with fail
        go_quiet (fail)
        have HI2 : Hid (CJ w (.slice (some ⟨b1, o1, none⟩) nl l2) L (A1 + 1) A1 ca M cc (wr.drewN nq) ∧ MkAt (wr.drewN nq) B V4 m4 ∧ LAt (wr.drewN nq) (.slice (some ⟨b2, o2, none⟩) nl v2) (sv L)) := by
          have hb : Below wr.heap.size wr (wr.drewN nq) := ⟨rfl, rfl, rfl, Nat.le_refl _, fun _ _ => rfl⟩
          exact ⟨HI.out.1.later hb, HI.out.2.1.later hb, HI.out.2.2.later hb⟩
        go_wp2
        go_roundw
        case rel => exact ⟨q + 1, by omega, by go_num, HI2.out⟩
        case measure => simp [intOf]; omega
      · obtain rfl : q = nl := by omega
        have HH : Hid (Calls Try.prog 12 #[.pointer (some ⟨B, 0, none⟩)] wr _) := held_fn HI.out.2.1.b HI.out.2.1.o
        rw [HHL.out] at HH
        by_cases huY : ul ≤ Y
        · rw [if_pos huY] at HH
          have h1 : ¬ (Y : Int) < (ul : Int) := by omega
          have h2 : (ul : Int) ≤ (Y : Int) := by omega
          go_wp2_with fail
          refine HH.out.mono ?_
          rintro e wx ⟨rfl, hwx⟩
          rw [hwx]
          clear hwx HH
          go_wp2
          go_roundw
          case rel => exact ⟨j + 1, by omega, by go_num, HI.out.1⟩
          case measure => simp [intOf]; omega
        · rw [if_neg huY] at HH
          have h1 : (Y : Int) < (ul : Int) := by omega
          have h2 : ¬ (ul : Int) ≤ (Y : Int) := by omega
          go_wp2_with fail
          refine HH.out.mono ?_
          rintro e wx ⟨rfl, hwx⟩
          rw [hwx]
          clear hwx HH
          go_wp2
          go_roundw
          case rel => exact ⟨j + 1, by omega, by go_num, HI.out.1⟩
          case measure => simp [intOf]; omega
    · obtain rfl : j = 3 := by omega
      go_wp2
      go_ret
      exact ⟨rfl, HI.out.lo⟩
end Go.Proofs.Ytjmjhmohholmbaa
