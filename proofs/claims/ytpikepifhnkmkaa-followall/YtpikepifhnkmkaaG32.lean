/- lines: goOn, end, Feed, New. -/
import Derived.Test.YtpikepifhnkmkaaG31
namespace Go.Proofs.Ytpikepifhnkmkaa
open Go.RowKit Go.Maps Ln
attribute [local go_sem ↓] Go.wp_at_zero Go.wp_at_succ

theorem LAt.keepm {w w' : World} {V : Value} {xs : List Value} (h : LAt w V xs) (hk : ∀ b o v, v ∈ xs → w.cell? ⟨b, o, none⟩ = some v → w'.cell? ⟨b, o, none⟩ = some v) : LAt w' V xs := by
  obtain ⟨a, c, e, h1, h2, h3⟩ := h
  refine ⟨a, c, e, h1, h2, ?_⟩
  rcases h3 with h3 | ⟨b, off, ea, hc⟩
  · exact .inl h3
  · exact .inr ⟨b, off, ea, fun k v hv => hk b _ v (List.mem_of_getElem? hv) (hc k v hv)⟩
/-- bytes that are read stand where a number is written -/
theorem LAt.setn {w : World} {V : Value} {l : List UInt8} (h : LAt w V (uv l)) {B j : Nat} {x : Int} (hc : w.cell? ⟨B, j, none⟩ = some (.int .i64 x)) (X : Value) : LAt (w.setCell ⟨B, j, none⟩ X) V (uv l) := h.keepm fun b o v hm hv => by
  have hne : (⟨b, o, none⟩ : Addr) ≠ ⟨B, j, none⟩ := fun e => by
    rw [e, hc] at hv
    cases hv
    obtain ⟨z, _, e2⟩ := List.mem_map.1 hm
    cases e2
  rw [World.cell?_setCell_other _ _ _ _ (fun e => hne e.symm)]
  exact hv
theorem goOn_fn {w : World} {B : Nat} {V Y : Value} {m : Mk} {b : List UInt8} (h : MkAt w B V m) (hY : LAt w Y (uv b)) (hm : m.most ≤ 4096) (hl : m.u.length + b.length ≤ 4611686018427387904) :
    Calls Try.prog 64 #[.pointer (some ⟨B, 0, none⟩), Y] w fun e w' => e = .returned (.tuple #[]) ∧ MTo B V (m.goOn b) w w' := by
  obtain ⟨hb, ho⟩ := h
  have hY0 : LAt w Y (uv b) := hY
  obtain ⟨ya, yc, rfl, hy1, hy2, _⟩ := hY
  rw [uv_len] at hy1 hY0 ⊢
  obtain ⟨x, hx⟩ : ∃ x, m.u.length = x := ⟨_, rfl⟩
  obtain ⟨y, hy⟩ : ∃ y, m.most = y := ⟨_, rfl⟩
  obtain ⟨n, hn⟩ : ∃ n, b.length = n := ⟨_, rfl⟩
  obtain ⟨z, hz⟩ : ∃ z, m.long = z := ⟨_, rfl⟩
  have HM : Hid (m.u.length = x ∧ m.most = y ∧ b.length = n ∧ m.long = z) := ⟨hx, hy, hn, hz⟩
  rw [hx, hy, hz] at hb
  rw [hx, hn] at hl
  rw [hn] at hy1 hY0 ⊢
  rw [hy] at hm
  have hb1 : MkB (w.setCell ⟨B, 1, none⟩ (.int .i64 ((x : Int) + (n : Int)))) B V ((x : Int) + (n : Int)) (y : Nat) (z : Nat) := hb.put1 _
  have ho1 : OwnB (w.setCell ⟨B, 1, none⟩ (.int .i64 ((x : Int) + (n : Int)))) V m.held := own_set ho hb 1 _
  obtain ⟨w1, hw1⟩ : ∃ w1, w.setCell ⟨B, 1, none⟩ (.int .i64 ((x : Int) + (n : Int))) = w1 := ⟨_, rfl⟩
  have hfr : FrP (fun k => k = B ∨ V.ownBlock = some k) w w1 := by rw [← hw1]; exact (FrP.refl _ w).set (fun _ => .inl rfl) 1 _
  rw [hw1] at hb1 ho1
  have HW : Hid (w.setCell ⟨B, 1, none⟩ (.int .i64 ((x : Int) + (n : Int))) = w1) := hw1
  have HT : Hid (Calls Try.prog 69 #[.pointer (some ⟨B, 0, none⟩)] w1 _) := tooLong_fn hb1
  have HR : Hid (∀ u q l2, MPost B V ((x : Int) + (n : Int)) (y : Nat) (z : Nat) l2 (w1.drewN q) u → MPost B V ((x : Int) + (n : Int)) (y : Nat) (z : Nat) l2 w u) := fun u q l2 hu => MPost.trans ⟨hb1, ho1, fun _ hb => .inl hb, hfr⟩ hu.undrew
  have HY1 : Hid (LAt w1 (.slice ya n yc) (uv b)) := by rw [← hw1]; exact hY0.setn hb.cells.2.1 _
  have HB1 : Hid (MkB w1 B V ((x : Int) + (n : Int)) (y : Nat) (z : Nat)) := hb1
  have HO1 : Hid (OwnB w1 V m.held) := ho1
  obtain ⟨_, c1, _⟩ := hb.cells
  have q1 := hb.frozen 1
  clear hb ho hb1 ho1 hfr hY0 hx hy hn hz hw1
  by_cases hlt : (y : Int) < (x : Int) + (n : Int)
  · have HE : Hid ((m.goOn b).held = []) := Mk.held_no (m := m.goOn b) (by show ¬ (m.u ++ b).length ≤ m.most; rw [List.length_append, HM.out.1, HM.out.2.1, HM.out.2.2.1]; omega)
    rw [show decide ((y : Int) < (x : Int) + (n : Int)) = true from decide_eq_true hlt] at HT
    go_enter Try.func64, Try.ntmps64
    go_upto_region 1 with fail
    rw [HW.out]
    clear HW c1 q1
    go_wp2_with fail
    refine HT.out.mono ?_
    rintro e w2 ⟨rfl, q, rfl⟩
    have HC : Hid (Calls Try.prog 62 #[.pointer (some ⟨B, 0, none⟩)] (w1.drewN q) _) := letGo_fn (x := (x : Int) + (n : Int)) (y := (y : Nat)) (z := (z : Nat)) HB1.out
    go_wp2_with fail
    refine HC.out.mono ?_
    rintro e u ⟨rfl, hu⟩
    have HU : Hid (MTo B V (m.goOn b) w u) := MPost.to (HR.out u q _ hu) (by show _ = ((m.u ++ b).length : Int); rw [List.length_append, HM.out.1, HM.out.2.2.1]; omega) (by show _ = (m.most : Int); rw [HM.out.2.1]) (by show _ = (m.long : Int); rw [HM.out.2.2.2]) HE.out.symm
    clear hu HR HC
    go_wp2
    first | go_end0 | (simp only [Exit.inBlock, Exit.then]; refine bodyPost_ret (results_none rfl _ _ _) rfl ?_) | refine bodyPost_ret (results_none rfl _ _ _) rfl ?_
    exact ⟨rfl, HU.out⟩
  · have hmy : m.u.length ≤ m.most := by rw [HM.out.1, HM.out.2.1]; omega
    have HE : Hid ((m.goOn b).held = m.held ++ b) := by
      show _ = _
      rw [Mk.held_yes hmy]
      exact Mk.held_yes (m := m.goOn b) (by show (m.u ++ b).length ≤ m.most; rw [List.length_append, HM.out.1, HM.out.2.1, HM.out.2.2.1]; omega)
    have HL : Hid (m.held.length + b.length ≤ 4096) := by show _ ≤ _; rw [Mk.held_yes hmy, HM.out.1, HM.out.2.2.1]; omega
    clear hmy
    rw [show decide ((y : Int) < (x : Int) + (n : Int)) = false from decide_eq_false hlt] at HT
    go_enter Try.func64, Try.ntmps64
    go_upto_region 1 with fail
    rw [HW.out]
    clear HW c1 q1
    go_wp2_with fail
    refine HT.out.mono ?_
    rintro e w2 ⟨rfl, q, rfl⟩
    have HC : Hid (Calls Try.prog 70 #[.pointer (some ⟨B, 0, none⟩), .slice ya n yc] (w1.drewN q) _) := lay_fn (x := (x : Int) + (n : Int)) (y := (y : Nat)) (z := (z : Nat)) HB1.out (HO1.out.keep fun _ _ _ => rfl) (HY1.out.keep fun _ _ _ h => h) HL.out
    go_wp2_with fail
    refine HC.out.mono ?_
    rintro e u ⟨rfl, hu⟩
    have HU : Hid (MTo B V (m.goOn b) w u) := MPost.to (HR.out u q _ hu) (by show _ = ((m.u ++ b).length : Int); rw [List.length_append, HM.out.1, HM.out.2.2.1]; omega) (by show _ = (m.most : Int); rw [HM.out.2.1]) (by show _ = (m.long : Int); rw [HM.out.2.2.2]) HE.out.symm
    clear hu HR HC
    go_wp2
    first | go_end0 | (simp only [Exit.inBlock, Exit.then]; refine bodyPost_ret (results_none rfl _ _ _) rfl ?_) | refine bodyPost_ret (results_none rfl _ _ _) rfl ?_
    exact ⟨rfl, HU.out⟩
theorem end_fn {w : World} {B : Nat} {V : Value} {m : Mk} (h : MkAt w B V m) (hl : m.long ≤ 4611686018427387904) :
    Calls Try.prog 65 #[.pointer (some ⟨B, 0, none⟩)] w fun e w' => e = .returned (.tuple #[.string ⟨m.held.toArray⟩, .bool (decide (m.u.length ≤ m.most))]) ∧ MTo B V m.ended w w' := by
  obtain ⟨hb, ho⟩ := h
  have HX : Hid (Calls Try.prog 71 #[.pointer (some ⟨B, 0, none⟩)] w _) := text_fn hb ho
  have HT : Hid (Calls Try.prog 69 #[.pointer (some ⟨B, 0, none⟩)] w _) := tooLong_fn hb
  obtain ⟨x, hx⟩ : ∃ x, m.u.length = x := ⟨_, rfl⟩
  obtain ⟨y, hy⟩ : ∃ y, m.most = y := ⟨_, rfl⟩
  obtain ⟨z, hz⟩ : ∃ z, m.long = z := ⟨_, rfl⟩
  have HM : Hid (m.u.length = x ∧ m.most = y ∧ m.long = z) := ⟨hx, hy, hz⟩
  rw [hx, hy] at HT
  rw [hx, hy, hz] at hb
  rw [hz] at hl
  have HB : Hid (MkB w B V (x : Nat) (y : Nat) (z : Nat)) := hb
  have HO : Hid (OwnB w V m.held) := ho
  have q3 := hb.frozen 3
  obtain ⟨_, _, _, c3⟩ := hb.cells
  rw [hx, hy]
  by_cases hlt : (y : Int) < (x : Int)
  · have HE : Hid (m.ended = ⟨[], m.most, m.long + 1⟩) := Mk.ended_no (by rw [hx, hy]; omega)
    have HD : Hid (decide (x ≤ y) = false) := decide_eq_false (by omega)
    rw [show decide ((y : Int) < (x : Int)) = true from decide_eq_true hlt] at HT
    clear hb ho hx hy hz
    go_enter Try.func65, Try.ntmps65
    go_wp2_with fail
    refine HX.out.mono ?_
    rintro e w2 ⟨rfl, rfl⟩
    go_wp2_with fail
    refine HT.out.mono ?_
    rintro e w2 ⟨rfl, q, rfl⟩
    have c3' : (w2.drewN q).cell? ⟨B, 3, none⟩ = some (.int .i64 (z : Nat)) := c3
    have q3' : (w2.drewN q).frozen? ⟨B, 3, none⟩ = false := q3
    have HC : Hid (Calls Try.prog 53 #[.pointer (some ⟨B, 0, none⟩)] ((w2.drewN q).setCell ⟨B, 3, none⟩ (.int .i64 ((z : Int) + 1))) _) := drop_fn (MkB.put3 (w := w2.drewN q) HB.out _) (own_set (w := w2.drewN q) (HO.out.keep fun _ _ _ => rfl) HB.out 3 _)
    have HR : Hid (∀ u, MPost B V 0 (y : Nat) ((z : Int) + 1) [] ((w2.drewN q).setCell ⟨B, 3, none⟩ (.int .i64 ((z : Int) + 1))) u → MPost B V 0 (y : Nat) ((z : Int) + 1) [] w2 u) := fun u hu => MPost.undrew (q := q) (MPost.trans ⟨MkB.put3 (w := w2.drewN q) HB.out _, own_set (w := w2.drewN q) (HO.out.keep fun _ _ _ => rfl) HB.out 3 _, fun _ hb => .inl hb, (FrP.refl _ _).set (fun _ => .inl rfl) 3 _⟩ hu)
    clear HX HT c3 q3
    go_wp2_with fail
    refine HC.out.mono ?_
    rintro e u ⟨rfl, hu⟩
    have HU : Hid (MTo B V m.ended w2 u) := by show MTo B V m.ended w2 u; rw [HE.out]; exact MPost.to (HR.out u hu) rfl (by show _ = (m.most : Int); rw [HM.out.2.1]) (by show _ = ((m.long + 1 : Nat) : Int); rw [HM.out.2.2]; omega) (by unfold Mk.held; split <;> rfl)
    clear hu HR HC
    go_wp2
    go_ret2
    exact ⟨by rw [HD.out]; rfl, HU.out⟩
  · have HE : Hid (m.ended = ⟨[], m.most, m.long⟩) := Mk.ended_yes (by rw [hx, hy]; omega)
    have HD : Hid (decide (x ≤ y) = true) := decide_eq_true (by omega)
    rw [show decide ((y : Int) < (x : Int)) = false from decide_eq_false hlt] at HT
    clear hb ho hx hy hz
    go_enter Try.func65, Try.ntmps65
    go_wp2_with fail
    refine HX.out.mono ?_
    rintro e w2 ⟨rfl, rfl⟩
    go_wp2_with fail
    refine HT.out.mono ?_
    rintro e w2 ⟨rfl, q, rfl⟩
    have HC : Hid (Calls Try.prog 53 #[.pointer (some ⟨B, 0, none⟩)] (w2.drewN q) _) := drop_fn (w := w2.drewN q) HB.out (HO.out.keep fun _ _ _ => rfl)
    clear HX HT c3 q3
    go_wp2_with fail
    refine HC.out.mono ?_
    rintro e u ⟨rfl, hu⟩
    have HU : Hid (MTo B V m.ended w2 u) := by show MTo B V m.ended w2 u; rw [HE.out]; exact MPost.to hu.undrew rfl (by show _ = (m.most : Int); rw [HM.out.2.1]) (by show _ = (m.long : Int); rw [HM.out.2.2]) (by unfold Mk.held; split <;> rfl)
    clear hu HC
    go_wp2
    go_ret2
    exact ⟨by rw [HD.out]; rfl, HU.out⟩
theorem uv_at {l : List UInt8} {k : Nat} {c : UInt8} (h : l[k]? = some c) : (uv l)[k]? = some (.int .u8 (c.toNat : Nat)) := by unfold uv; rw [List.getElem?_map, h]; rfl
theorem u8_ten {c : UInt8} (h : c ≠ 10) : (c.toNat : Int) ≠ 10 := fun e => h (UInt8.toNat_inj.1 (by show c.toNat = 10; omega))
/-- all but the maker stands -/
theorem MTo.trans {B : Nat} {V : Value} {m1 m2 : Mk} {w u v : World} (h : MTo B V m1 w u) (h2 : ∀ V1, MkAt u B V1 m1 → MTo B V1 m2 u v) : MTo B V m2 w v := by
  obtain ⟨V1, a1, a2, a3⟩ := h
  obtain ⟨V2, b1, b2, b3⟩ := h2 V1 a1
  refine ⟨V2, b1, fun b hb => ?_, a3.trans b3 (fun k hk hq => ?_)⟩
  · rcases b2 b hb with e | e
    · exact a2 b e
    · exact .inr (Nat.le_trans a3.size e)
  · rcases hq with e | e
    · exact .inl e
    · rcases a2 k e with e2 | e2
      · exact .inr e2
      · omega
set_option maxHeartbeats 800000 in
theorem feed_fn {w : World} {B : Nat} {V Y : Value} {m : Mk} {b : List UInt8} (h : MkAt w B V m) (hY : LAt w Y (uv b)) (hm : m.most ≤ 4096) (hl : m.u.length + b.length ≤ 4611686018427387904) (hg : m.long ≤ 4611686018427387904) :
    Calls Try.prog 59 #[.pointer (some ⟨B, 0, none⟩), Y] w fun e w' => e = .returned (.tuple #[.string ⟨(m.text b).toArray⟩, .int .i64 (took b : Nat), .bool (m.whole b)]) ∧ MTo B V (m.feed b) w w' := by
  have HAll : Hid (MkAt w B V m ∧ LAt w Y (uv b) ∧ m.most ≤ 4096 ∧ m.u.length + b.length ≤ 4611686018427387904 ∧ m.long ≤ 4611686018427387904) := ⟨h, hY, hm, hl, hg⟩
  obtain ⟨ya, yc, rfl, hy1, hy2, hy3⟩ := hY.open
  rw [uv_len] at hy1 HAll ⊢
  obtain ⟨n, hn⟩ : ∃ n, b.length = n := ⟨_, rfl⟩
  have HN : Hid (b.length = n) := hn
  have HC3 : Hid (∀ k c, b[k]? = some c → ∃ bb off, ya = some ⟨bb, off, none⟩ ∧ w.cell? ⟨bb, off + k, none⟩ = some (.int .u8 (c.toNat : Nat))) := fun k c hc => hy3 k _ (uv_at hc)
  rw [hn] at hy1 ⊢
  rw [hn] at HAll
  rw [hn] at hl
  have hnb : n ≤ 4611686018427387904 := by omega
  clear h hY hm hl hg hy3 hn
  go_enter Try.func59, Try.ntmps59
  go_wp2
  go_loop [7, 12] (fun _ i => ∃ k : Nat, k ≤ n ∧ i = .int .i64 (k : Nat) ∧ Hid (∀ j, j < k → ∃ c, b[j]? = some c ∧ c ≠ 10)) (fun _ i => n - (intOf i).toNat)
  case atStart => exact ⟨0, Nat.zero_le _, rfl, fun j hj => by omega⟩
  case round =>
    obtain ⟨k, hk, rfl, hno⟩ := hrel
    by_cases hlt : k < n
    · obtain ⟨c, hc⟩ : ∃ c, b[k]? = some c := ⟨_, List.getElem?_eq_getElem (by rw [HN.out]; exact hlt)⟩
      obtain ⟨bb, off, rfl, hcell⟩ := HC3.out k c hc
      have HB : Hid (b[k]? = some c) := hc
      clear hc
      by_cases e : c = 10
      · subst e
        have hcell : w.cell? ⟨bb, off + k, none⟩ = some (.int .u8 10) := hcell
        have HNL : Hid (nl b = k) := nl_first HB.out hno.out
        have HG : Hid (Calls Try.prog 64 #[.pointer (some ⟨B, 0, none⟩), .slice (some ⟨bb, off, none⟩) k yc] w _) := goOn_fn (b := b.take k) HAll.out.1 (by rw [uv_take]; exact HAll.out.2.1.take rfl (by omega)) HAll.out.2.2.1 (by have := HAll.out.2.2.2.1; rw [List.length_take]; omega)
        go_wp2_with fail
        refine HG.out.mono ?_
        rintro e w2 ⟨rfl, hu⟩
        have HU : Hid (MTo B V (m.goOn (b.take k)) w w2) := hu
        obtain ⟨V2, h2, _, _⟩ := hu
        have HE : Hid (Calls Try.prog 65 #[.pointer (some ⟨B, 0, none⟩)] w2 _) := end_fn h2 HAll.out.2.2.2.2
        have HE2 : Hid (∀ u, MTo B V2 (m.goOn (b.take k)).ended w2 u → MTo B V (m.feed b) w u) := by
          intro u hu
          obtain ⟨V1, a1, a2, a3⟩ := HU.out
          have e0 : V1 = V2 := by
            have x1 := a1.b.cells.1
            have x2 := h2.b.cells.1
            rw [x1] at x2
            exact Option.some.inj x2
          subst e0
          have : m.feed b = (m.goOn (b.take k)).ended := by unfold Mk.feed; rw [HNL.out, if_pos (by rw [HN.out]; exact hlt)]
          rw [this]
          refine MTo.trans HU.out fun V3 h3 => ?_
          have e0 : V3 = V1 := by
            have x1 := h3.b.cells.1
            have x2 := h2.b.cells.1
            rw [x1] at x2
            exact Option.some.inj x2
          subst e0
          exact hu
        have HV : Hid (m.text b = (m.goOn (b.take k)).held ∧ took b = k + 1 ∧ m.whole b = decide ((m.goOn (b.take k)).u.length ≤ (m.goOn (b.take k)).most)) := by
          have hlt' : k < b.length := by rw [HN.out]; exact hlt
          refine ⟨?_, ?_, ?_⟩
          · unfold Mk.text; rw [HNL.out, if_pos hlt']
          · unfold took; rw [HNL.out, if_pos hlt']
          · unfold Mk.whole; rw [HNL.out]; simp only [hlt', decide_true, Bool.true_and]; show _ = decide ((m.u ++ b.take k).length ≤ m.most); rw [List.length_append, List.length_take, Nat.min_eq_left (by omega)]
        clear HG h2
        go_wp2_with fail
        refine HE.out.mono ?_
        rintro e w3 ⟨rfl, hu3⟩
        have HF : Hid (MTo B V (m.feed b) w w3) := HE2.out w3 hu3
        clear hu3 HE HE2
        go_wp2
        refine bodyPost_ret (v := .tuple #[.string ⟨(m.goOn (b.take k)).held.toArray⟩, .int .i64 ((k : Int) + 1), .bool (decide ((m.goOn (b.take k)).u.length ≤ (m.goOn (b.take k)).most))]) (by simp [results, Try.results59, go_sem]) rfl ⟨?_, HF.out⟩
        rw [HV.out.1, HV.out.2.1, HV.out.2.2]
        rfl
      · have hne : ¬ (c.toNat : Int) = 10 := u8_ten e
        have HNE : Hid (c ≠ 10) := e
        clear e
        go_wp2
        go_round
        case rel => exact ⟨k + 1, by omega, by go_num, fun j hj => by
          rcases Nat.lt_or_ge j k with h1 | h1
          · exact hno.out j h1
          · obtain rfl : j = k := by omega
            exact ⟨c, HB.out, HNE.out⟩⟩
        case measure => simp [intOf]; omega
    · obtain rfl : k = n := by omega
      have HNL : Hid (nl b = b.length) := nl_none (fun j hj => hno.out j (by have := HN.out; omega))
      have HG : Hid (Calls Try.prog 64 #[.pointer (some ⟨B, 0, none⟩), .slice ya k yc] w _) := goOn_fn (b := b) HAll.out.1 HAll.out.2.1 HAll.out.2.2.1 (by have := HAll.out.2.2.2.1; have := HN.out; omega)
      have HV : Hid (m.text b = [] ∧ took b = k ∧ m.whole b = false ∧ m.feed b = m.goOn b) := by
        have hx : ¬ nl b < b.length := by rw [HNL.out]; omega
        refine ⟨?_, ?_, ?_, ?_⟩
        · unfold Mk.text; rw [if_neg hx]
        · unfold took; rw [if_neg hx, HN.out]
        · unfold Mk.whole; rw [decide_eq_false hx]; rfl
        · unfold Mk.feed; rw [if_neg hx]
      clear hno
      go_wp2_with fail
      refine HG.out.mono ?_
      rintro e w2 ⟨rfl, hu⟩
      have HF : Hid (MTo B V (m.feed b) w w2) := by show MTo B V (m.feed b) w w2; rw [HV.out.2.2.2]; exact hu
      clear hu HG
      go_wp2
      refine bodyPost_ret (v := .tuple #[.string ⟨#[]⟩, .int .i64 (k : Nat), .bool false]) (by simp [results, Try.results59, go_sem]) rfl ⟨?_, HF.out⟩
      rw [HV.out.1, HV.out.2.1, HV.out.2.2.1]
end Go.Proofs.Ytpikepifhnkmkaa
