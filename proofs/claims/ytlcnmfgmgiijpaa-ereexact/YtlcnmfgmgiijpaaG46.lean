/- The document's class of layer 4. -/
import Derived.Test.YtlcnmfgmgiijpaaG43
import Derived.Test.YtlcnmfgmgiijpaaG45
import Derived.Test.YtlcnmfgmgiijpaaG30
namespace Go.Proofs.Ytlcnmfgmgiijpaa
open Go.RowKit
attribute [local go_sem ↓] Go.wp_at_zero Go.wp_at_succ

theorem class_first {s : ByteArray} {i k : Nat} (hk : i + 2 ≤ k) (hl : k + 1 < s.size) (h1 : byt s k = 58) (h2 : byt s (k + 1) = 93) (hno : ∀ m, i + 2 ≤ m → m < k → ¬ (byt s m = 58 ∧ byt s (m + 1) = 93)) : classEnds s i = true ∧ className s i = s.extract (i + 2) k := by
  have hix : Lib.index (rest s (i + 2)).data.toList [58, 93] = ((k - (i + 2) : Nat) : Int) := by
    refine Lib.index_first (by rw [← Lib.size_eq, rest_size]; omega) ((occ_rest s (i + 2) (k - (i + 2))).2 ?_) (fun j hj => ?_)
    · rw [show i + 2 + (k - (i + 2)) = k by omega]
      exact ⟨hl, h1, h2⟩
    · cases h : Lib.occAt (rest s (i + 2)).data.toList [58, 93] j with
      | false => rfl
      | true =>
        obtain ⟨_, ha, hb⟩ := (occ_rest s (i + 2) j).1 h
        exact absurd ⟨ha, hb⟩ (hno (i + 2 + j) (by omega) (by omega))
  have hc := Lib.cutB_hit (rest s (i + 2)) ⟨#[58, 93]⟩ (k - (i + 2)) hix
  refine ⟨hc.2.2, hc.1.trans ?_⟩
  rw [Lib.extract_eq, Lib.extract_eq]
  unfold rest
  rw [Lib.extract_eq]
  simp only [List.drop_zero, Nat.sub_zero]
  rw [List.take_take]
  congr 3
  omega
theorem class_none {s : ByteArray} {i : Nat} (hno : ∀ m, i + 2 ≤ m → m + 1 < s.size → ¬ (byt s m = 58 ∧ byt s (m + 1) = 93)) : classEnds s i = false := by
  have hix : Lib.index (rest s (i + 2)).data.toList [58, 93] = -1 := by
    refine Lib.index_none (fun j _ => ?_)
    cases h : Lib.occAt (rest s (i + 2)).data.toList [58, 93] j with
    | false => rfl
    | true =>
      obtain ⟨hl, ha, hb⟩ := (occ_rest s (i + 2) j).1 h
      exact absurd ⟨ha, hb⟩ (hno (i + 2 + j) (by omega) (by omega))
  exact (Lib.cutB_miss (rest s (i + 2)) ⟨#[58, 93]⟩ hix).2.2
/-- a set and another one but for the newline -/
def addS (σ c : Oct.S) : Oct.S := fun x => σ x || (c x && !(x == 10))
def addTo (σ c : Oct.S) (n : Nat) : Oct.S := fun x => σ x || (decide (x < n) && c x && !(x == 10))
theorem addTo_zero (σ c : Oct.S) : addTo σ c 0 = σ := by funext x; simp [addTo]
theorem addTo_all (σ c : Oct.S) (x : Nat) (h : x < 256) : addTo σ c 256 x = addS σ c x := by simp [addTo, addS, h]
theorem addTo_yes (σ c : Oct.S) (n : Nat) (h : c n = true) (x : Nat) : wi (addTo σ c n) n x = addTo σ c (n + 1) x := by
  unfold wi
  by_cases hx : x = n
  · subst hx
    split
    · rename_i h10; subst h10; simp [addTo]
    · rename_i h10; simp [addTo, Oct.ins, h, h10]
  · have e : decide (x < n + 1) = decide (x < n) := by simp; omega
    split
    · simp [addTo, e]
    · simp [addTo, Oct.ins, e, hx]
theorem addTo_no (σ c : Oct.S) (n : Nat) (h : c n = false) (x : Nat) : addTo σ c n x = addTo σ c (n + 1) x := by
  by_cases hx : x = n
  · subst hx; simp [addTo, h]
  · have e : decide (x < n + 1) = decide (x < n) := by simp; omega
    simp [addTo, e]
/-- WHAT A METHOD ANSWERS THAT GATHERS A SET. -/
def RefS (w : World) (b0 B : Nat) (s : ByteArray) (d : Nat) (r : Rs Oct.S) (σ : Oct.S) : Ending → World → Prop := fun e w' =>
  match r with
  | .ok c j => j ≤ s.size ∧ e = .returned (setV (addS σ c)) ∧ RR w' b0 B s j d 0 0 ∧ Fr b0 B w w'
  | .bad a c => c ≠ 0 ∧ ∃ (τ : Oct.S) (j d' : Nat), e = .returned (setV τ) ∧ RR w' b0 B s j d' c a ∧ Fr b0 B w w'
  | .out => False
/-- THE STATE: the set's box, the result, the reader. -/
structure Cq (w : World) (s : ByteArray) (b0 B A R d : Nat) (u : World) (i : Nat) (σ : Oct.S) (e a : Nat) : Prop where
  box : SB u A σ
  res : SB u R Oct.none
  rd : RR u b0 B s i d e a
  fr : Fr b0 B w u
  hA : w.heap.size ≤ A
  hR : w.heap.size ≤ R
  hne : A ≠ R
section
variable {w : World} {s : ByteArray} {b0 B A R d : Nat} {u u' : World} {i : Nat} {σ : Oct.S} {e a : Nat}
theorem Cq.later (h : Cq w s b0 B A R d u i σ e a) (hb : Below u.heap.size u u') : Cq w s b0 B A R d u' i σ e a := ⟨h.box.later hb, h.res.later hb, h.rd.later hb, h.fr.later hb, h.hA, h.hR, h.hne⟩
theorem Cq.read (h : Cq w s b0 B A R d u i σ e a) {j d' e' a' : Nat} (hf : Fr b0 B u u') (hr : RR u' b0 B s j d' e' a') : Cq w s b0 B A R d' u' j σ e' a' := ⟨h.box.fr h.rd hf, h.res.fr h.rd hf, hr, h.fr.trans hf, h.hA, h.hR, h.hne⟩
theorem Cq.at (h : Cq w s b0 B A R d u i σ e a) (j : Nat) : Cq w s b0 B A R d (u.setCell ⟨B, 1, none⟩ (.int .i64 (j : Nat))) j σ e a := h.read (Fr.set _ _ _ _ _) (h.rd.at j)
theorem Cq.put (h : Cq w s b0 B A R d u i σ e a) (τ : Oct.S) : Cq w s b0 B A R d (put4 u A τ) i τ e a := ⟨h.box.put4 τ, h.res.put4_other (Ne.symm h.hne) τ, h.rd.put4 h.box τ, h.fr.put4 h.hA τ, h.hA, h.hR, h.hne⟩
theorem Cq.as (h : Cq w s b0 B A R d u i σ e a) {τ : Oct.S} (he : ∀ b, b < 256 → σ b = τ b) : Cq w s b0 B A R d u i τ e a := by
  refine ⟨?_, h.res, h.rd, h.fr, h.hA, h.hR, h.hne⟩
  have h2 := h.box
  unfold SB at h2 ⊢
  rw [Oct.word_congr (s := σ) (t := τ) (i := 0) (fun k hk => he _ (by omega)), Oct.word_congr (s := σ) (t := τ) (i := 1) (fun k hk => he _ (by omega)), Oct.word_congr (s := σ) (t := τ) (i := 2) (fun k hk => he _ (by omega)), Oct.word_congr (s := σ) (t := τ) (i := 3) (fun k hk => he _ (by omega))] at h2
  exact h2
/-- the ends: what lies in the box, or what a call answered, into the result -/
theorem Cq.ret (h : Cq w s b0 B A R d u i σ e a) (f : Func) (hf : f.results = #[.cell 6 25]) {Q : Ending → World → Prop} {ac : Act} (τ : Oct.S) (hd : ac.defers = []) (ha : ac.tmps[6]?.getD undef = .pointer (some ⟨R, 0, none⟩)) (hQ : RR (put4 u R τ) b0 B s i d e a → Fr b0 B w (put4 u R τ) → Q (.returned (setV τ)) (put4 u R τ)) : bodyPost Try.prog f Q .ret ac (put4 u R τ) :=
  post_set f 6 hf hd ha (h.res.put4 τ) (hQ (h.rd.put4 h.res τ) (h.fr.put4 h.hR τ))
end
theorem start_cq (w : World) (σ : Oct.S) {s : ByteArray} {b0 B i d : Nat} (h : RR w b0 B s i d 0 0) : ∃ u, u = (w.alloc (.cells #[.int .u64 (Oct.word σ 0 : Nat), .int .u64 (Oct.word σ 1 : Nat), .int .u64 (Oct.word σ 2 : Nat), .int .u64 (Oct.word σ 3 : Nat)] 25)).alloc (.cells #[.int .u64 0, .int .u64 0, .int .u64 0, .int .u64 0] 25) ∧ Cq w s b0 B w.heap.size (w.heap.size + 1) d u i σ 0 0 := by
  obtain ⟨u, hu, hst⟩ := start_with w σ
  exact ⟨u, hu, hst.2.1, hst.1, h.later hst.2.2, Fr.of_below _ _ hst.2.2, Nat.le_refl _, by omega, by omega⟩
set_option maxRecDepth 4000 in
set_option maxHeartbeats 8000000 in
theorem rclass_walk (b0 B o i d : Nat) (σ : Oct.S) (s : ByteArray) (w : World) (h : RR w b0 B s i d 0 0) (hi : i + 2 ≤ s.size) (hs : s.size ≤ 1024) : Calls Try.prog 67 #[.pointer (some ⟨B, 0, none⟩), setV σ, .int .i64 (o : Nat)] w (RefS w b0 B s d (class_ s o i) σ) := by
  obtain ⟨u0, hu0, hcq⟩ := start_cq w σ h
  obtain ⟨A, hA⟩ : ∃ A, A = w.heap.size := ⟨_, rfl⟩
  obtain ⟨R, hR⟩ : ∃ R, R = w.heap.size + 1 := ⟨_, rfl⟩
  rw [← hR, ← hA] at hcq
  have HS0 : Hid (Cq w s b0 B A R d u0 i σ 0 0) := hcq
  have HU : Hid (u0 = _) := hu0
  have HAA : Hid (A = w.heap.size) := hA
  have HRR : Hid (R = w.heap.size + 1) := hR
  clear hu0 hcq hA hR h
  obtain ⟨oo, cc, c0, c1, c2, c3, c4⟩ := HS0.out.rd.cells
  have hi3 : i ≤ 1024 := by omega
  unfold setV
  go_enter Try.func67, Try.ntmps67
  go_upto_region 1 with fail
  rw [← HU.out, ← HRR.out, ← HAA.out]
  clear HU HRR HAA
  go_wp2_with fail
  clear c0 c1 c2 c3 c4
  go_loopw [8] (fun v u => ∃ k : Nat, i + 2 ≤ k ∧ k ≤ s.size ∧ v = .int .i64 k ∧ Hid (∀ m, i + 2 ≤ m → m < k → ¬ (byt s m = 58 ∧ byt s (m + 1) = 93)) ∧ u = u0) (fun v _ => 4000 - (intOf v).toNat)
  case atStart => exact ⟨i + 2, Nat.le_refl _, hi, by go_num, fun m h1 h2 => by omega, rfl⟩
  case round =>
    obtain ⟨k, hk, hks, rfl, hno, hw⟩ := hrel
    subst hw
    obtain ⟨oo, cc, c0, c1, c2, c3, c4⟩ := HS0.out.rd.cells
    by_cases hlt : k + 1 < s.size
    · have hlt1 : (k : Int) + 1 < (s.size : Int) := by omega
      have hlt2 : k < s.size := by omega
      have hlt3 : (k : Int) < (s.size : Int) := by omega
      have hb1 := byt_eq hlt
      have hb2 := byt_eq hlt2
      by_cases h58 : s[k].toNat = 58
      · have g58 : ((s[k].toNat : Int) == 58) = true := by simp; omega
        by_cases h93 : s[k + 1].toNat = 93
        · have g93 : ((s[k + 1].toNat : Int) == 93) = true := by simp; omega
          obtain ⟨he1, he2⟩ := class_first hk hlt (by rw [hb2]; exact h58) (by rw [hb1]; exact h93) hno.out
          have HC : Hid (class_ s o i = if (classOf (s.extract (i + 2) k)).2 = 0 then .ok (classOf (s.extract (i + 2) k)).1 (k + 2) else .bad i 30) := by
            show _ = _
            unfold class_
            rw [he1, he2, if_pos rfl]
            have hsz : (s.extract (i + 2) k).size = k - (i + 2) := by simp; omega
            rw [hsz, show i + 2 + (k - (i + 2)) + 2 = k + 2 by omega]
            rcases class_code (s.extract (i + 2) k) with h0 | h0
            · rw [if_pos h0, if_pos h0]
            · rw [if_neg (by omega), if_neg (by omega), h0]
          have HCL : Hid (∀ u, Calls Try.prog 74 #[.string (s.extract (i + 2) k)] u fun e w' => e = .returned (.tuple #[setV (classOf (s.extract (i + 2) k)).1, .bool (decide ((classOf (s.extract (i + 2) k)).2 = 0))]) ∧ Below u.heap.size u w') := fun u => rclass_any _ u
          obtain ⟨c, hc⟩ : ∃ c, c = (classOf (s.extract (i + 2) k)).1 := ⟨_, rfl⟩
          obtain ⟨z, hz⟩ : ∃ z, z = (classOf (s.extract (i + 2) k)).2 := ⟨_, rfl⟩
          rw [← hc, ← hz] at HC HCL
          obtain ⟨I2, hI2⟩ : ∃ I2, I2 = i + 2 := ⟨_, rfl⟩
          have e2 : (i : Int) + 2 = (I2 : Nat) := by omega
          have hIk : (I2 : Int) ≤ (k : Int) := by omega
          rw [← hI2] at HCL
          clear hc hz h58 h93 he1 he2 hb1 hb2 hno hI2
          go_wp2_with fail
          refine (HCL.out _).mono ?_
          rintro e w3 ⟨rfl, hb3⟩
          have HS3 : Hid (Cq w s b0 B A R d w3 i σ 0 0) := HS0.out.later hb3
          clear hb3 HCL c0 c1 c2 c3 c4
          have hal : Below w3.heap.size w3 (w3.alloc (.cells #[.int .u64 (Oct.word c 0 : Nat), .int .u64 (Oct.word c 1 : Nat), .int .u64 (Oct.word c 2 : Nat), .int .u64 (Oct.word c 3 : Nat)] 25)) := (Below.refl _ _).alloc (Nat.le_refl _) _
          have HC4 : Hid (SB (w3.alloc (.cells #[.int .u64 (Oct.word c 0 : Nat), .int .u64 (Oct.word c 1 : Nat), .int .u64 (Oct.word c 2 : Nat), .int .u64 (Oct.word c 3 : Nat)] 25)) w3.heap.size c) := sb_new w3 c
          have HS4 : Hid (Cq w s b0 B A R d (w3.alloc (.cells #[.int .u64 (Oct.word c 0 : Nat), .int .u64 (Oct.word c 1 : Nat), .int .u64 (Oct.word c 2 : Nat), .int .u64 (Oct.word c 3 : Nat)] 25)) i σ 0 0) := HS3.out.later hal
          clear hal
          unfold setV
          go_upto_region 7 with fail
          obtain ⟨w4, hw4⟩ : ∃ w4, w4 = w3.alloc (.cells #[.int .u64 (Oct.word c 0 : Nat), .int .u64 (Oct.word c 1 : Nat), .int .u64 (Oct.word c 2 : Nat), .int .u64 (Oct.word c 3 : Nat)] 25) := ⟨_, rfl⟩
          obtain ⟨C, hC⟩ : ∃ C, C = w3.heap.size := ⟨_, rfl⟩
          rw [← hw4] at HC4 HS4 ⊢
          rw [← hC] at HC4 ⊢
          have HCA : Hid (C ≠ A) := by have h1 := HS3.out.box.lt; show _ ≠ _; omega
          clear hw4 hC
          obtain ⟨oo, cc, c0, c1, c2, c3, c4⟩ := HS4.out.rd.cells
          by_cases hz0 : z = 0
          · rw [decide_eq_true hz0]
            rw [if_pos hz0] at HC
            clear hz0
            have f1 := HS4.out.rd.frozen 1
            have HS5 : Hid (Cq w s b0 B A R d (w4.setCell ⟨B, 1, none⟩ (.int .i64 ((k : Int) + 2))) (k + 2) σ 0 0) := HS4.out.at (k + 2)
            have HC5 : Hid (SB (w4.setCell ⟨B, 1, none⟩ (.int .i64 ((k : Int) + 2))) C c) := HC4.out.fr HS4.out.rd (Fr.set _ _ _ _ _)
            go_upto_region 11 with fail
            obtain ⟨w5, hw5⟩ : ∃ w5, w5 = w4.setCell ⟨B, 1, none⟩ (.int .i64 ((k : Int) + 2)) := ⟨_, rfl⟩
            rw [← hw5] at HS5 HC5 ⊢
            clear hw5 c0 c1 c2 c3 c4 f1 HS4 HC4
            go_wp2_with fail
            go_loopw [11] (fun v u => ∃ n : Nat, n ≤ 256 ∧ v = .int .i64 n ∧ Hid (SB u C c) ∧ Hid (Cq w s b0 B A R d u (k + 2) (addTo σ c n) 0 0)) (fun v _ => 256 - (intOf v).toNat)
            case atStart => exact ⟨0, Nat.zero_le _, rfl, HC5, by rw [addTo_zero]; exact HS5⟩
            case round =>
              clear HC5 HS5
              obtain ⟨n, hn, rfl, hcc, hq⟩ := hrel
              obtain ⟨x, hx⟩ : ∃ x, x = addTo σ c n := ⟨_, rfl⟩
              have HX : Hid (x = addTo σ c n) := hx
              rw [← hx] at hq
              clear hx
              obtain ⟨a0, a1, a2, a3⟩ := hq.out.box.cells
              by_cases hn2 : n < 256
              · obtain ⟨e0, e1, e2', e3⟩ := hcc.out.cells
                cases hcn : c n with
                | true =>
                  have HT : Hid (c n = true) := hcn
                  clear hcn
                  rcases quo4 hn2 with ⟨hnn, hqq⟩ | ⟨hnn, hqq⟩ | ⟨hnn, hqq⟩ | ⟨hnn, hqq⟩
                  all_goals
                    have hbit := bit_rem1 c n _ hnn
                    rw [HT.out] at hbit
                    clear hnn
                    have g0 := hq.out.box.frozen 0
                    have g1 := hq.out.box.frozen 1
                    have g2 := hq.out.box.frozen 2
                    have g3 := hq.out.box.frozen 3
                    go_wp2_with (go_at_call 55; refine (rwith_any x n _ hn2).mono ?_; rintro e w7 ⟨rfl, hb7⟩; have HS7 : Hid (Cq w s b0 B A R d w7 (k + 2) x 0 0) := (hq.out.later hb7); have HC7 : Hid (SB w7 C c) := (hcc.out.later hb7); clear hb7 a0 a1 a2 a3 g0 g1 g2 g3 e0 e1 e2' e3; obtain ⟨a0, a1, a2, a3⟩ := HS7.out.box.cells; have g0 := (HS7.out.box.frozen 0); have g1 := (HS7.out.box.frozen 1); have g2 := (HS7.out.box.frozen 2); have g3 := (HS7.out.box.frozen 3); unfold setV)
                    go_roundw
                    case rel => exact ⟨n + 1, by omega, by go_num, HC7.out.put4_other HCA.out _, (HS7.out.put (wi x n)).as (fun b _ => by rw [HX.out]; exact addTo_yes σ c n HT.out b)⟩
                    case measure => simp [intOf]; omega
                | false =>
                  have HT : Hid (c n = false) := hcn
                  clear hcn
                  rcases quo4 hn2 with ⟨hnn, hqq⟩ | ⟨hnn, hqq⟩ | ⟨hnn, hqq⟩ | ⟨hnn, hqq⟩
                  all_goals
                    have hbit := bit_rem1 c n _ hnn
                    rw [HT.out] at hbit
                    clear hnn
                    go_wp2
                    go_roundw
                    case rel => exact ⟨n + 1, by omega, by go_num, hcc, hq.out.as (fun b _ => by rw [HX.out]; exact addTo_no σ c n HT.out b)⟩
                    case measure => simp [intOf]; omega
              · have HK : Hid (n = 256) := by show n = 256; omega
                obtain ⟨r0, r1, r2, r3⟩ := hq.out.res.cells
                have g0 := hq.out.res.frozen 0
                have g1 := hq.out.res.frozen 1
                have g2 := hq.out.res.frozen 2
                have g3 := hq.out.res.frozen 3
                go_wp2
                refine hq.out.ret Try.f67 rfl x rfl rfl (fun hr hf => ?_)
                unfold RefS
                rw [HC.out]
                exact ⟨by omega, congrArg Ending.returned (setV_congr (fun b hb => by rw [HX.out, HK.out]; exact addTo_all σ c b hb)), hr, hf⟩
          · rw [decide_eq_false hz0]
            rw [if_neg hz0] at HC
            clear hz0
            go_wp2_with fail
            refine (rfault_lit b0 B i d 30 i _ rfl s _ HS4.out.rd).mono ?_
            rintro e u6 ⟨rfl, hr6, hf6⟩
            have HS6 : Hid (Cq w s b0 B A R d u6 i σ 30 i) := HS4.out.read hf6 hr6
            clear hr6 hf6 c0 c1 c2 c3 c4
            unfold zeroNd Nd.val
            obtain ⟨a0, a1, a2, a3⟩ := HS6.out.box.cells
            obtain ⟨r0, r1, r2, r3⟩ := HS6.out.res.cells
            have g0 := HS6.out.res.frozen 0
            have g1 := HS6.out.res.frozen 1
            have g2 := HS6.out.res.frozen 2
            have g3 := HS6.out.res.frozen 3
            go_wp2
            refine HS6.out.ret Try.f67 rfl σ rfl rfl (fun hr hf => ?_)
            unfold RefS
            rw [HC.out]
            exact ⟨by decide, σ, _, _, rfl, hr, hf⟩
        · have g93 : ((s[k + 1].toNat : Int) == 93) = false := by simp; omega
          have HN2 : Hid (∀ m, i + 2 ≤ m → m < k + 1 → ¬ (byt s m = 58 ∧ byt s (m + 1) = 93)) := fun m h1 h2 => by
            by_cases he : m = k
            · subst he
              rw [hb1, hb2]
              omega
            · exact hno.out m h1 (by omega)
          clear hno hb1 hb2
          go_wp2
          go_roundw
          case rel => exact ⟨k + 1, by omega, by omega, by go_num, HN2, trivial⟩
          case measure => simp [intOf]; omega
      · have g58 : ((s[k].toNat : Int) == 58) = false := by simp; omega
        have HN2 : Hid (∀ m, i + 2 ≤ m → m < k + 1 → ¬ (byt s m = 58 ∧ byt s (m + 1) = 93)) := fun m h1 h2 => by
          by_cases he : m = k
          · subst he
            rw [hb1, hb2]
            omega
          · exact hno.out m h1 (by omega)
        clear hno hb1 hb2
        go_wp2
        go_roundw
        case rel => exact ⟨k + 1, by omega, by omega, by go_num, HN2, trivial⟩
        case measure => simp [intOf]; omega
    · have hlt1 : ¬ (k : Int) + 1 < (s.size : Int) := by omega
      have HC : Hid (class_ s o i = .bad o 43) := by
        show _ = _
        unfold class_
        rw [class_none (fun m h1 h2 => hno.out m h1 (by omega))]
        rfl
      clear hno
      go_wp2_with fail
      refine (rfault_lit b0 B i d 43 o _ rfl s _ HS0.out.rd).mono ?_
      rintro e u6 ⟨rfl, hr6, hf6⟩
      have HS6 : Hid (Cq w s b0 B A R d u6 i σ 43 o) := HS0.out.read hf6 hr6
      clear hr6 hf6 c0 c1 c2 c3 c4
      unfold zeroNd Nd.val
      obtain ⟨a0, a1, a2, a3⟩ := HS6.out.box.cells
      obtain ⟨r0, r1, r2, r3⟩ := HS6.out.res.cells
      have g0 := HS6.out.res.frozen 0
      have g1 := HS6.out.res.frozen 1
      have g2 := HS6.out.res.frozen 2
      have g3 := HS6.out.res.frozen 3
      go_wp2
      refine HS6.out.ret Try.f67 rfl σ rfl rfl (fun hr hf => ?_)
      unfold RefS
      rw [HC.out]
      exact ⟨by decide, σ, _, _, rfl, hr, hf⟩
end Go.Proofs.Ytlcnmfgmgiijpaa
