
import Derived.Test.YtmjnobdlgbojoaaGreatDoorG04
import Derived.Lib.CutLaws
namespace Go.Proofs.YtmjnobdlgbojoaaGreatDoor
open Go.RowKit
attribute [local go_sem ↓] Go.wp_at_zero Go.wp_at_succ
theorem indexByte_mem (l : List UInt8) (c : UInt8) : 0 ≤ Lib.indexByte l c ↔ c ∈ l := by
  induction l with
  | nil => simp [Lib.indexByte]
  | cons b l ih =>
    have hge := Lib.indexByte_ge l c
    simp only [Lib.indexByte, List.mem_cons]
    by_cases h : b = c
    · subst h; simp
    · have h1 : (b == c) = false := by simp [h]
      rw [h1]
      simp only [Bool.false_eq_true, if_false]
      have h2 : ¬ c = b := fun e => h e.symm
      by_cases hm : Lib.indexByte l c = -1
      · simp only [hm, beq_self_eq_true, if_true]
        constructor
        · intro h3; omega
        · rintro (h3 | h3)
          · exact absurd h3 h2
          · have := ih.2 h3; omega
      · have h3 : (Lib.indexByte l c == -1) = false := by simp [hm]
        rw [h3]
        simp only [Bool.false_eq_true, if_false]
        constructor
        · intro _; exact .inr (ih.1 (by omega))
        · intro _; omega
theorem u8_back (b : UInt8) : ((b.toNat : Int)).toNat.toUInt8 = b := by simp
theorem rest_size (s : ByteArray) (i : Nat) : (rest s i).size = s.size - i := by simp [rest]
theorem rest_byt (s : ByteArray) (i k : Nat) : byt (rest s i) k = byt s (i + k) := by
  unfold byt
  by_cases h : i + k < s.size
  · have h1 : k < (rest s i).size := by simp [rest]; omega
    rw [dif_pos h1, dif_pos h]
    simp [rest, ByteArray.getElem_extract]
  · have h1 : ¬ k < (rest s i).size := by simp [rest]; omega
    rw [dif_neg h1, dif_neg h]
def specialR (r : ByteArray) : Bool := decide (1 < r.size) && decide (byt r 0 = 91) && decide (byt r 1 ∈ [58, 46, 61])
theorem special_rest (s : ByteArray) (i : Nat) : specialR (rest s i) = special s i := by
  unfold specialR special
  rw [rest_size s i, rest_byt, rest_byt]
  have : decide (1 < s.size - i) = decide (i + 1 < s.size) := by rw [Bool.eq_iff_iff]; simp; omega
  rw [this]
  rfl
theorem special_any (r : ByteArray) (w : World) : Calls Tryz.prog 101 #[.string r] w fun e w' => e = .returned (.bool (specialR r)) ∧ w' = w := by
  by_cases h1 : 1 < r.size
  · have h1' : (1 : Int) < (r.size : Int) := by omega
    have h0 : 0 < r.size := by omega
    have h0' : (0 : Int) < (r.size : Int) := by omega
    have hb0 := byt_eq h0
    have hb1 := byt_eq h1
    by_cases h91 : byt r 0 = 91
    · have g : ((r[0].toNat : Int) == 91) = true := by rw [← hb0, h91]; rfl
      have HX : Hid (specialR r = decide (0 ≤ Lib.indexByte [58, 46, 61] r[1])) := by
        show _ = _
        have hix := indexByte_mem [58, 46, 61] r[1]
        have hm : byt r 1 ∈ [58, 46, 61] ↔ r[1] ∈ ([58, 46, 61] : List UInt8) := by rw [hb1]; simp [← UInt8.toNat_inj]
        unfold specialR
        rw [decide_eq_true h1, decide_eq_true h91, Bool.true_and, Bool.true_and]
        exact decide_eq_decide.2 (hm.trans hix.symm)
      clear hb0 hb1 h91
      go_enter Tryz.func101, Tryz.ntmps101
      go_wp2_with fail
      refine (Tryz.strings_IndexByte _ _ _).mono ?_
      rintro e w' ⟨rfl, rfl⟩
      rw [u8_back]
      obtain ⟨z, hz⟩ : ∃ z, z = Lib.indexByte [58, 46, 61] r[1] := ⟨_, rfl⟩
      have hz' : Lib.indexByte ({ data := #[58, 46, 61] } : ByteArray).data.toList r[1] = z := hz.symm
      rw [← hz] at HX
      rw [hz']
      clear hz hz'
      go_wp2
      go_ret
      exact ⟨ret_bool (by rw [HX.out, Bool.eq_iff_iff]; simp), rfl⟩
    · have g : ((r[0].toNat : Int) == 91) = false := by rw [← hb0]; simp; omega
      have HX : Hid (specialR r = false) := by show _ = _; simp [specialR, h91]
      clear hb0 hb1 h91
      go_enter Tryz.func101, Tryz.ntmps101
      go_wp2
      go_ret
      exact ⟨ret_bool (by rw [HX.out]), rfl⟩
  · have h1' : (r.size : Int) ≤ 1 := by omega
    have HX : Hid (specialR r = false) := by show _ = _; simp [specialR, h1]
    go_enter Tryz.func101, Tryz.ntmps101
    go_wp2
    go_ret
    exact ⟨ret_bool (by rw [HX.out]), rfl⟩
theorem ordinary_any (w : World) : Calls Tryz.prog 90 #[] w fun e w' => e = .returned (setV ordinary) ∧ Below w.heap.size w w' := by
  have H0 : Hid (SB (w.alloc (.cells #[.int .u64 0, .int .u64 0, .int .u64 0, .int .u64 0] 28)) w.heap.size Oct.none) := sb_zero w
  have HB : Hid (Below w.heap.size w (w.alloc (.cells #[.int .u64 0, .int .u64 0, .int .u64 0, .int .u64 0] 28))) := (Below.refl _ _).alloc (Nat.le_refl _) _
  go_enter Tryz.func90, Tryz.ntmps90
  go_wp2_with fail
  refine (of_any none 0 0 [] _ rfl (by simp [maxLen]) (Or.inl rfl) (by simp)).mono ?_
  rintro e w1 ⟨rfl, k1⟩
  have H1 : Hid (SB w1 w.heap.size Oct.none) := H0.out.later k1
  have B1 : Hid (Below w.heap.size w w1) := below_trans HB.out k1 HB.out.size
  clear k1 H0 HB
  rw [setV_congr (s := Oct.has []) (t := Oct.none) (fun b _ => by simp [Oct.has, Oct.none])]
  unfold setV
  go_wp2_with fail
  refine (not_gen Oct.none _).mono ?_
  rintro e w2 ⟨rfl, k2⟩
  have H2 : Hid (SB w2 w.heap.size Oct.none) := H1.out.later k2
  have B2 : Hid (Below w.heap.size w w2) := below_trans B1.out k2 B1.out.size
  clear k2 H1 B1
  obtain ⟨c0, c1, c2, c3⟩ := H2.out.cells
  have f0 := H2.out.frozen 0
  have f1 := H2.out.frozen 1
  have f2 := H2.out.frozen 2
  have f3 := H2.out.frozen 3
  go_wp2
  exact post_set Tryz.f90 0 rfl rfl rfl (H2.out.put4 ordinary) ⟨rfl, below_put4 B2.out (Nat.le_refl _) ordinary⟩
end Go.Proofs.YtmjnobdlgbojoaaGreatDoor


namespace Go.Proofs.YtmjnobdlgbojoaaGreatDoor
open Go.RowKit
attribute [local go_sem ↓] Go.wp_at_zero Go.wp_at_succ
def SetV (_ : World) (x : Oct.S) (v : Value) : Prop := v = setV x
def UnitV (_ : World) (_ : Unit) (v : Value) : Prop := v = .tuple #[]
def escape (s : ByteArray) (i : Nat) : Rs Unit := if i + 1 = s.size || !(escapable (byt s (i + 1))) then .bad i 46 else .ok () (i + 1)
theorem escapable_idx (b : UInt8) : escapable b.toNat = decide (0 ≤ Lib.indexByte [46, 91, 93, 40, 41, 42, 43, 63, 123, 125, 124, 94, 36, 92, 47, 45] b) := by
  have hix := indexByte_mem [46, 91, 93, 40, 41, 42, 43, 63, 123, 125, 124, 94, 36, 92, 47, 45] b
  have hm : b.toNat ∈ [46, 91, 93, 40, 41, 42, 43, 63, 123, 125, 124, 94, 36, 92, 47, 45] ↔ b ∈ ([46, 91, 93, 40, 41, 42, 43, 63, 123, 125, 124, 94, 36, 92, 47, 45] : List UInt8) := by simp [← UInt8.toNat_inj]
  unfold escapable
  exact decide_eq_decide.2 (hm.trans hix.symm)
set_option maxHeartbeats 1000000 in
theorem escape_any (B i d : Nat) (s : ByteArray) (w : World) (h : RB w B s i d) (hi : i < s.size) (hs : s.size ≤ 1024) : Calls Tryz.prog 91 #[.pointer (some ⟨B, 0, none⟩)] w (Reads w B s d (escape s i) UnitV) := by
  have HR : Hid (RB w B s i d) := h
  obtain ⟨c0, c1, c2⟩ := h.cells
  have f1 := h.frozen 1
  have hi1 : i ≤ 1024 := by omega
  clear h
  have HR1 : Hid (RB (w.setCell ⟨B, 1, none⟩ (.int .i64 ((i : Int) + 1))) B s (i + 1) d) := HR.out.at (i + 1)
  have HG1 : Hid (w.grownBy (w.setCell ⟨B, 1, none⟩ (.int .i64 ((i : Int) + 1))) (some B)) := grown_set _ _ _ _
  obtain ⟨w1, hw1⟩ : ∃ w1, w1 = w.setCell ⟨B, 1, none⟩ (.int .i64 ((i : Int) + 1)) := ⟨_, rfl⟩
  rw [← hw1] at HR1 HG1
  have HW1 : Hid (w1 = _) := hw1
  clear hw1
  go_enter Tryz.func91, Tryz.ntmps91
  go_upto_region 2 with fail
  rw [← HW1.out]
  clear HW1 c0 c1 c2 f1 HR
  have hne : Nonempty (Later w1) := ⟨⟨w1, Below.refl _ _⟩⟩
  obtain ⟨k, hk⟩ : ∃ k, k = i + 1 := ⟨_, rfl⟩
  rw [← hk] at HR1
  have HK : Hid (k = i + 1) := hk
  have hk1 : k ≤ s.size := by omega
  clear hk
  have HE : Hid (∀ u : Later w1, Calls Tryz.prog 63 #[.pointer (some ⟨B, 0, none⟩)] u.at_ fun e w' => e = .returned (.bool (decide (k = s.size))) ∧ Below u.at_.heap.size u.at_ w') := fun u => ended_any B k d s _ (HR1.out.later u.below)
  have c0 : ∀ u : Later w1, u.at_.cell? ⟨B, 0, none⟩ = some (.string s) := fun u => (HR1.out.later u.below).cells.1
  have c1 : ∀ u : Later w1, u.at_.cell? ⟨B, 1, none⟩ = some (.int .i64 (k : Nat)) := fun u => (HR1.out.later u.below).cells.2.1
  by_cases hend : k = s.size
  · have HX : Hid (escape s i = .bad i 46) := by show _ = _; simp [escape, ← HK.out, hend]
    rw [decide_eq_true hend] at HE
    clear hend
    go_cut [28] (fun b wx => b = .bool true ∧ Hid (Below w1.heap.size w1 wx))
    case first =>
      refine wp_region_later (by kernel_rfl) (by kernel_rfl) ?_
      repeat (first
        | go_big_quiet_step ((go_at_call 63; exact calls_later (HE.out _)))
        | quiet_step ((go_at_call 63; exact calls_later (HE.out _))))
      refine wpQuiet_nil ?_
      intro _ hw'
      obtain ⟨u, hw''⟩ := hw'
      subst hw''
      go_wp2_with fail
      go_meet
      case rel => exact ⟨rfl, u.below⟩
    case rest =>
    obtain ⟨rfl, kc⟩ := hcut
    go_wp2_with fail
    refine (giveUp_any i 46 _).mono ?_
    rintro e w2 ⟨rfl, k2⟩
    go_wp2
    refine ⟨rfl, ?_⟩
    unfold Reads
    rw [HX.out]
    exact ⟨rfl, grown_below (grown_below HG1.out kc.out) k2⟩
  · have hlt : k < s.size := by omega
    have hlt' : (k : Int) < (s.size : Int) := by omega
    rw [decide_eq_false hend] at HE
    obtain ⟨z, hz⟩ : ∃ z, z = Lib.indexByte [46, 91, 93, 40, 41, 42, 43, 63, 123, 125, 124, 94, 36, 92, 47, 45] s[k] := ⟨_, rfl⟩
    have HIX : Hid (∀ v, Calls Tryz.prog 17 #[.string ⟨#[46, 91, 93, 40, 41, 42, 43, 63, 123, 125, 124, 94, 36, 92, 47, 45]⟩, .int .u8 (s[k].toNat : Int)] v fun e w' => e = .returned (.int .i64 z) ∧ w' = v) := fun v => (Tryz.strings_IndexByte _ _ v).mono (fun _ _ h => ⟨by rw [h.1, u8_back, hz], h.2⟩)
    have HZ : Hid (escapable (byt s k) = decide (0 ≤ z)) := by show _ = _; rw [byt_eq hlt, escapable_idx, hz]
    clear hz
    by_cases hz0 : 0 ≤ z
    · have HX : Hid (escape s i = .ok () k) := by show _ = _; simp [escape, ← HK.out, hend, HZ.out, hz0]
      clear hend
      go_cut [28] (fun b wx => b = .bool false ∧ Hid (Below w1.heap.size w1 wx))
      case first =>
        refine wp_region_later (by kernel_rfl) (by kernel_rfl) ?_
        repeat (first
          | go_big_quiet_step (first | (go_at_call 63; exact calls_later (HE.out _)) | (go_at_call 17; exact calls_later_same (HIX.out _)))
          | quiet_step (first | (go_at_call 63; exact calls_later (HE.out _)) | (go_at_call 17; exact calls_later_same (HIX.out _))))
        refine wpQuiet_nil ?_
        intro _ hw'
        obtain ⟨u, hw''⟩ := hw'
        subst hw''
        go_wp2_with fail
        go_meet
        case rel => exact ⟨by first | rfl | (congr 1; simp; omega), u.below⟩
      case rest =>
      obtain ⟨rfl, kc⟩ := hcut
      go_wp2
      go_end0
      unfold Reads
      rw [HX.out]
      exact ⟨hk1, _, rfl, rfl, HR1.out.later kc.out, grown_below HG1.out kc.out⟩
    · have HX : Hid (escape s i = .bad i 46) := by show _ = _; simp [escape, ← HK.out, HZ.out, hz0]
      clear hend
      have hzn : z < 0 := by omega
      go_cut [28] (fun b wx => b = .bool true ∧ Hid (Below w1.heap.size w1 wx))
      case first =>
        refine wp_region_later (by kernel_rfl) (by kernel_rfl) ?_
        repeat (first
          | go_big_quiet_step (first | (go_at_call 63; exact calls_later (HE.out _)) | (go_at_call 17; exact calls_later_same (HIX.out _)))
          | quiet_step (first | (go_at_call 63; exact calls_later (HE.out _)) | (go_at_call 17; exact calls_later_same (HIX.out _))))
        refine wpQuiet_nil ?_
        intro _ hw'
        obtain ⟨u, hw''⟩ := hw'
        subst hw''
        go_wp2_with fail
        go_meet
        case rel => exact ⟨by first | rfl | (congr 1; simp; omega), u.below⟩
      case rest =>
      obtain ⟨rfl, kc⟩ := hcut
      go_wp2_with fail
      refine (giveUp_any i 46 _).mono ?_
      rintro e w2 ⟨rfl, k2⟩
      go_wp2
      refine ⟨rfl, ?_⟩
      unfold Reads
      rw [HX.out]
      exact ⟨rfl, grown_below (grown_below HG1.out kc.out) k2⟩
end Go.Proofs.YtmjnobdlgbojoaaGreatDoor


namespace Go.Proofs.YtmjnobdlgbojoaaGreatDoor
open Go.RowKit
attribute [local go_sem ↓] Go.wp_at_zero Go.wp_at_succ
theorem rb_other {w : World} {B A : Nat} {s : ByteArray} {i d : Nat} (h : RB w B s i d) (hne : A ≠ B) (j : Nat) (v : Value) : RB (w.setCell ⟨A, j, none⟩ v) B s i d := by
  unfold RB at h ⊢
  rw [Below.heap_setCell w ⟨A, j, none⟩ v B (fun e => hne e.symm)]
  exact h
theorem rb_put4 {w : World} {B A : Nat} {s : ByteArray} {i d : Nat} (h : RB w B s i d) (hne : A ≠ B) (t : Oct.S) : RB (put4 w A t) B s i d := rb_other (rb_other (rb_other (rb_other h hne _ _) hne _ _) hne _ _) hne _ _
theorem grown_new {w u : World} {B A j : Nat} {v : Value} (h : w.grownBy u (some B)) (hA : w.heap.size ≤ A) : w.grownBy (u.setCell ⟨A, j, none⟩ v) (some B) :=
  ⟨h.os, h.tape, h.output, by simpa [World.setCell] using h.size, fun k hk hne => (Below.heap_setCell u ⟨A, j, none⟩ v k (by simp; omega)).trans (h.block k hk hne)⟩
theorem grown_put4 {w u : World} {B A : Nat} (h : w.grownBy u (some B)) (hA : w.heap.size ≤ A) (t : Oct.S) : w.grownBy (put4 u A t) (some B) := grown_new (grown_new (grown_new (grown_new h hA) hA) hA) hA
theorem grown_alloc (w : World) (o : Obj) (r : Option Nat) : w.grownBy (w.alloc o) r := World.grownBy_alloc w o r
set_option maxHeartbeats 2000000 in
theorem span_walk (B i d : Nat) (s : ByteArray) (w : World) (h : RB w B s i d) (hi : i + 2 < s.size) (hs : s.size ≤ 1024) : Calls Tryz.prog 102 #[.pointer (some ⟨B, 0, none⟩)] w (Reads w B s d (span_ s i) SetV) := by
  have HR : Hid (RB w B s i d) := h
  have HZ0 : Hid (SB (w.alloc (.cells #[.int .u64 0, .int .u64 0, .int .u64 0, .int .u64 0] 28)) w.heap.size Oct.none) := sb_zero w
  have HR1 : Hid (RB (w.alloc (.cells #[.int .u64 0, .int .u64 0, .int .u64 0, .int .u64 0] 28)) B s i d) := h.later ((Below.refl _ _).alloc (Nat.le_refl _) _)
  have HBR : Hid (w.heap.size ≠ B) := by have := h.lt; show _ ≠ _; omega
  obtain ⟨w1, hw1⟩ : ∃ w1, w1 = w.alloc (.cells #[.int .u64 0, .int .u64 0, .int .u64 0, .int .u64 0] 28) := ⟨_, rfl⟩
  have HG1 : Hid (w.grownBy w1 (some B)) := by rw [hw1]; exact grown_alloc _ _ _
  rw [← hw1] at HR1 HZ0
  have HW1 : Hid (w1 = _) := hw1
  clear hw1 h
  obtain ⟨R, hR⟩ : ∃ R, R = w.heap.size := ⟨_, rfl⟩
  rw [← hR] at HZ0 HBR
  have HRR : Hid (R = _) := hR
  clear hR HR
  obtain ⟨k, hk⟩ : ∃ k, k = i + 2 := ⟨_, rfl⟩
  have HK : Hid (k = i + 2) := hk
  have e2 : (i : Int) + 2 = (k : Nat) := by omega
  have hk0 : k < s.size := by omega
  have hk1 : (k : Int) < (s.size : Int) := by omega
  have hk2 : (k : Int) ≤ (s.size : Int) := by omega
  have hi0 : i < s.size := by omega
  have hi1 : (i : Int) < (s.size : Int) := by omega
  have hi3 : i ≤ 1024 := by omega
  have hb0 := byt_eq hi0
  have hb2 := byt_eq hk0
  clear hk
  obtain ⟨c0, c1, c2⟩ := HR1.out.cells
  go_enter Tryz.func102, Tryz.ntmps102
  go_upto_region 1 with fail
  rw [← HW1.out, ← HRR.out]
  clear HW1
  go_quiet (fail)
  have HR2 : Hid (RB (w1.drewN nq) B s i d) := HR1.out.later (below_drewN _ _ _)
  have HZ2 : Hid (SB (w1.drewN nq) R Oct.none) := HZ0.out.later (below_drewN _ _ _)
  have HG2 : Hid (w.grownBy (w1.drewN nq) (some B)) := grown_below HG1.out (below_drewN _ _ _)
  obtain ⟨w2, hw2⟩ : ∃ w2, w2 = w1.drewN nq := ⟨_, rfl⟩
  rw [← hw2] at HR2 HZ2 HG2
  have HW2 : Hid (w2 = _) := hw2
  clear hw2 c0 c1 c2 HR1 HZ0 HG1
  go_upto_region 2 with fail
  rw [← HW2.out]
  clear HW2
  have hne : Nonempty (Later w2) := ⟨⟨w2, Below.refl _ _⟩⟩
  have c0 : ∀ u : Later w2, u.at_.cell? ⟨B, 0, none⟩ = some (.string s) := fun u => (HR2.out.later u.below).cells.1
  have c1 : ∀ u : Later w2, u.at_.cell? ⟨B, 1, none⟩ = some (.int .i64 (i : Nat)) := fun u => (HR2.out.later u.below).cells.2.1
  have HSP : Hid (∀ v, Calls Tryz.prog 101 #[.string (s.extract k s.size)] v fun e w' => e = .returned (.bool (special s k)) ∧ w' = v) := fun v => (special_any (rest s k) v).mono (fun _ _ h => ⟨by rw [h.1, special_rest], h.2⟩)
  have HX0 : Hid (span_ s i = if decide (s[k].toNat < s[i].toNat) || special s k then .bad i 43 else .ok (Oct.span s[i].toNat s[k].toNat) (i + 3)) := by show _ = _; unfold span_; rw [← HK.out, hb0, hb2]
  have hf256 : s[i].toNat < 256 := UInt8.toNat_lt _
  have ht256 : s[k].toNat < 256 := UInt8.toNat_lt _
  clear hb0 hb2
  obtain ⟨f, hf⟩ : ∃ f, f = s[i].toNat := ⟨_, rfl⟩
  obtain ⟨t, ht⟩ : ∃ t, t = s[k].toNat := ⟨_, rfl⟩
  rw [← hf, ← ht] at HX0 ⊢
  rw [← hf] at hf256
  rw [← ht] at ht256
  clear hf ht
  have HBAD : Hid (∀ (wx : World), Below w2.heap.size w2 wx → span_ s i = .bad i 43 → True) := fun _ _ _ => trivial
  clear HBAD
  by_cases hlt : t < f
  · have HX : Hid (span_ s i = .bad i 43) := by show _ = _; rw [HX0.out]; simp [hlt]
    have g1 : decide ((t : Int) < (f : Int)) = true := by simp; omega
    have g2 : decide (t < f) = true := by simp [hlt]
    clear hlt
    go_cut [39] (fun b wx => b = .bool true ∧ Hid (Below w2.heap.size w2 wx))
    case first =>
      refine wp_region_later (by kernel_rfl) (by kernel_rfl) ?_
      repeat (first
        | go_big_quiet_step ((go_at_call 101; exact calls_later_same (HSP.out _)))
        | quiet_step ((go_at_call 101; exact calls_later_same (HSP.out _))))
      refine wpQuiet_nil ?_
      intro _ hw'
      obtain ⟨u, hw''⟩ := hw'
      subst hw''
      go_wp2_with fail
      go_meet
      case rel => exact ⟨rfl, u.below⟩
    case rest =>
    obtain ⟨rfl, kc⟩ := hcut
    have HRc : Hid (RB wc B s i d) := HR2.out.later kc.out
    obtain ⟨d0, d1, d2⟩ := HRc.out.cells
    clear c0 c1
    go_wp2_with fail
    refine (giveUp_any i 43 _).mono ?_
    rintro e w3 ⟨rfl, k3⟩
    go_wp2
    refine ⟨rfl, ?_⟩
    unfold Reads
    rw [HX.out]
    exact ⟨rfl, grown_below (grown_below HG2.out kc.out) k3⟩
  · have g1 : decide ((t : Int) < (f : Int)) = false := by simp; omega
    have g2 : decide (t < f) = false := by simp; omega
    cases hsp : special s k with
    | true =>
      have HX : Hid (span_ s i = .bad i 43) := by show _ = _; rw [HX0.out]; simp [hsp]
      rw [hsp] at HSP
      clear hlt hsp
      go_cut [39] (fun b wx => b = .bool true ∧ Hid (Below w2.heap.size w2 wx))
      case first =>
        refine wp_region_later (by kernel_rfl) (by kernel_rfl) ?_
        repeat (first
          | go_big_quiet_step ((go_at_call 101; exact calls_later_same (HSP.out _)))
          | quiet_step ((go_at_call 101; exact calls_later_same (HSP.out _))))
        refine wpQuiet_nil ?_
        intro _ hw'
        obtain ⟨u, hw''⟩ := hw'
        subst hw''
        go_wp2_with fail
        go_meet
        case rel => exact ⟨rfl, u.below⟩
      case rest =>
      obtain ⟨rfl, kc⟩ := hcut
      have HRc : Hid (RB wc B s i d) := HR2.out.later kc.out
      obtain ⟨d0, d1, d2⟩ := HRc.out.cells
      clear c0 c1
      go_wp2_with fail
      refine (giveUp_any i 43 _).mono ?_
      rintro e w3 ⟨rfl, k3⟩
      go_wp2
      refine ⟨rfl, ?_⟩
      unfold Reads
      rw [HX.out]
      exact ⟨rfl, grown_below (grown_below HG2.out kc.out) k3⟩
    | false =>
      have HX : Hid (span_ s i = .ok (Oct.span f t) (i + 3)) := by show _ = _; rw [HX0.out]; simp [hsp, hlt]
      rw [hsp] at HSP
      clear hlt hsp
      go_cut [39] (fun b wx => b = .bool false ∧ Hid (Below w2.heap.size w2 wx))
      case first =>
        refine wp_region_later (by kernel_rfl) (by kernel_rfl) ?_
        repeat (first
          | go_big_quiet_step ((go_at_call 101; exact calls_later_same (HSP.out _)))
          | quiet_step ((go_at_call 101; exact calls_later_same (HSP.out _))))
        refine wpQuiet_nil ?_
        intro _ hw'
        obtain ⟨u, hw''⟩ := hw'
        subst hw''
        go_wp2_with fail
        go_meet
        case rel => exact ⟨rfl, u.below⟩
      case rest =>
      obtain ⟨rfl, kc⟩ := hcut
      have HRc : Hid (RB wc B s i d) := HR2.out.later kc.out
      have HZc : Hid (SB wc R Oct.none) := HZ2.out.later kc.out
      have HGc : Hid (w.grownBy wc (some B)) := grown_below HG2.out kc.out
      obtain ⟨d0, d1, d2⟩ := HRc.out.cells
      have fd := HRc.out.frozen 1
      clear c0 c1
      have HR3 : Hid (RB (wc.setCell ⟨B, 1, none⟩ (.int .i64 ((i : Int) + 3))) B s (i + 3) d) := HRc.out.at (i + 3)
      have HZ3 : Hid (SB (wc.setCell ⟨B, 1, none⟩ (.int .i64 ((i : Int) + 3))) R Oct.none) := HZc.out.other HBR.out _ _
      have HG3 : Hid (w.grownBy (wc.setCell ⟨B, 1, none⟩ (.int .i64 ((i : Int) + 3))) (some B)) := grown_trans HGc.out (grown_set _ _ _ _)
      go_wp2_with fail
      obtain ⟨w3, hw3⟩ : ∃ w3, w3 = wc.setCell ⟨B, 1, none⟩ (.int .i64 ((i : Int) + 3)) := ⟨_, rfl⟩
      rw [← hw3] at HR3 HZ3 HG3 ⊢
      clear hw3 d0 d1 d2 fd
      refine (span_gen f t _ hf256 ht256).mono ?_
      rintro e w4 ⟨rfl, k4⟩
      have HR4 : Hid (RB w4 B s (i + 3) d) := HR3.out.later k4
      have HZ4 : Hid (SB w4 R Oct.none) := HZ3.out.later k4
      have HG4 : Hid (w.grownBy w4 (some B)) := grown_below HG3.out k4
      clear k4
      obtain ⟨z0, z1, z2, z3⟩ := HZ4.out.cells
      have y0 := HZ4.out.frozen 0
      have y1 := HZ4.out.frozen 1
      have y2 := HZ4.out.frozen 2
      have y3 := HZ4.out.frozen 3
      go_wp2
      refine post_set Tryz.f102 2 rfl rfl rfl (HZ4.out.put4 (Oct.span f t)) ?_
      unfold Reads
      rw [HX.out]
      exact ⟨by omega, _, rfl, rfl, (rb_put4 HR4.out HBR.out _), grown_put4 HG4.out (by rw [HRR.out]; exact Nat.le_refl _) _⟩
end Go.Proofs.YtmjnobdlgbojoaaGreatDoor


namespace Go.Proofs.YtmjnobdlgbojoaaGreatDoor
open Go.RowKit
attribute [local go_sem ↓] Go.wp_at_zero Go.wp_at_succ
def GM (w : World) : Prop := ∃ m : Int, w.cell? ⟨1, 0, none⟩ = some (.int .i64 m)
theorem GM.grown {w w' : World} {B : Nat} (h : GM w) (hg : w.grownBy w' (some B)) (hB : 2 ≤ B) : GM w' := by
  obtain ⟨m, hm⟩ := h
  exact ⟨m, hg.cell hm (fun e => by simp at e; omega)⟩
theorem GM.later {w w' : World} (h : GM w) (hb : Below w.heap.size w w') : GM w' := by
  obtain ⟨m, hm⟩ := h
  exact ⟨m, (hb.cell (p := ⟨1, 0, none⟩) (World.block_lt_of_cell? w _ hm)).trans hm⟩
theorem class_room {s : ByteArray} {i : Nat} (hi : i + 2 ≤ s.size) (h : classEnds s i = true) : i + 2 + (className s i).size + 2 ≤ s.size := by
  rcases Lib.indexB_cases (rest s (i + 2)) ⟨#[58, 93]⟩ with hx | ⟨k, hx, hr⟩
  · have := (Lib.cutB_miss (rest s (i + 2)) ⟨#[58, 93]⟩ hx).2.2
    unfold classEnds at h
    rw [show ([58, 93] : List UInt8) = (⟨#[58, 93]⟩ : ByteArray).data.toList from rfl, this] at h
    cases h
  · have e := (Lib.cutB_hit (rest s (i + 2)) ⟨#[58, 93]⟩ k hx).1
    have e2 : className s i = (rest s (i + 2)).extract 0 k := e
    rw [e2]
    have h2 : (⟨#[58, 93]⟩ : ByteArray).size = 2 := rfl
    rw [h2, rest_size] at hr
    simp [rest_size]
    omega
set_option maxHeartbeats 2000000 in
theorem class_walk (B o i d : Nat) (s : ByteArray) (w : World) (h : RB w B s i d) (hi : i + 2 ≤ s.size) (hs : s.size ≤ 1024) (hm : GM w) : Calls Tryz.prog 100 #[.pointer (some ⟨B, 0, none⟩), .int .i64 (o : Nat)] w (Reads w B s d (class_ s o i) SetV) := by
  have HZ0 : Hid (SB (w.alloc (.cells #[.int .u64 0, .int .u64 0, .int .u64 0, .int .u64 0] 28)) w.heap.size Oct.none) := sb_zero w
  have HR1 : Hid (RB (w.alloc (.cells #[.int .u64 0, .int .u64 0, .int .u64 0, .int .u64 0] 28)) B s i d) := h.later ((Below.refl _ _).alloc (Nat.le_refl _) _)
  have HM1 : Hid (GM (w.alloc (.cells #[.int .u64 0, .int .u64 0, .int .u64 0, .int .u64 0] 28))) := hm.later ((Below.refl _ _).alloc (Nat.le_refl _) _)
  have HBR : Hid (w.heap.size ≠ B) := by have := h.lt; show _ ≠ _; omega
  obtain ⟨w1, hw1⟩ : ∃ w1, w1 = w.alloc (.cells #[.int .u64 0, .int .u64 0, .int .u64 0, .int .u64 0] 28) := ⟨_, rfl⟩
  have HG1 : Hid (w.grownBy w1 (some B)) := by rw [hw1]; exact grown_alloc _ _ _
  rw [← hw1] at HR1 HZ0 HM1
  have HW1 : Hid (w1 = _) := hw1
  clear hw1 h
  obtain ⟨R, hR⟩ : ∃ R, R = w.heap.size := ⟨_, rfl⟩
  rw [← hR] at HZ0 HBR
  have HRR : Hid (R = _) := hR
  clear hR
  obtain ⟨k, hk⟩ : ∃ k, k = i + 2 := ⟨_, rfl⟩
  have HK : Hid (k = i + 2) := hk
  have e2 : (i : Int) + 2 = (k : Nat) := by omega
  have hk2 : (k : Int) ≤ (s.size : Int) := by omega
  have hi3 : i ≤ 1024 := by omega
  have HROOM : Hid (classEnds s i = true → i + 2 + (className s i).size + 2 ≤ s.size) := class_room hi
  have HCUT : Hid (∀ u : Later w1, Calls Tryz.prog 105 #[.string (s.extract k s.size), .string ⟨#[58, 93]⟩] u.at_ fun e w' => e = .returned (.tuple #[.string (className s i), .string ⟨(Lib.cut (rest s (i + 2)).data.toList [58, 93]).2.1.toArray⟩, .bool (classEnds s i)]) ∧ Below u.at_.heap.size u.at_ w') := fun u => by
    obtain ⟨m, hmu⟩ := HM1.out.later u.below
    have hsz : (rest s (i + 2)).size < 4294967281 := by rw [rest_size]; omega
    rw [hk]
    refine (Tryz.strings_Cut (rest s (i + 2)) ⟨#[58, 93]⟩ m u.at_ hsz hmu).mono ?_
    rintro e w' ⟨rfl, n, rfl⟩
    exact ⟨rfl, below_drewN _ _ _⟩
  have HX0 : Hid (class_ s o i = if classEnds s i then if (classOf (className s i)).2 = 0 then .ok (classOf (className s i)).1 (i + 2 + (className s i).size + 2) else .bad i (classOf (className s i)).2 else .bad o 43) := by show _ = _; rfl
  obtain ⟨nm, hnm⟩ : ∃ nm, nm = className s i := ⟨_, rfl⟩
  obtain ⟨cl, hcl⟩ : ∃ cl, cl = classEnds s i := ⟨_, rfl⟩
  obtain ⟨af, haf⟩ : ∃ af : ByteArray, af = ⟨(Lib.cut (rest s (i + 2)).data.toList [58, 93]).2.1.toArray⟩ := ⟨_, rfl⟩
  rw [← hnm, ← hcl] at HX0 HROOM
  rw [← hnm, ← hcl, ← haf] at HCUT
  clear hnm hcl haf hk hm
  have hne : Nonempty (Later w1) := ⟨⟨w1, Below.refl _ _⟩⟩
  have c0 : ∀ u : Later w1, u.at_.cell? ⟨B, 0, none⟩ = some (.string s) := fun u => (HR1.out.later u.below).cells.1
  have c1 : ∀ u : Later w1, u.at_.cell? ⟨B, 1, none⟩ = some (.int .i64 (i : Nat)) := fun u => (HR1.out.later u.below).cells.2.1
  go_enter Tryz.func100, Tryz.ntmps100
  go_upto_region 1 with fail
  rw [← HW1.out, ← HRR.out]
  clear HW1
  refine wp_region_later (by kernel_rfl) (by kernel_rfl) ?_
  repeat (first
    | go_big_quiet_step ((go_at_call 105; exact calls_later (HCUT.out _)))
    | quiet_step ((go_at_call 105; exact calls_later (HCUT.out _))))
  refine wpQuiet_nil ?_
  intro _ hw'
  obtain ⟨u, hw''⟩ := hw'
  subst hw''
  have HR2 : Hid (RB u.at_ B s i d) := HR1.out.later u.below
  have HZ2 : Hid (SB u.at_ R Oct.none) := HZ0.out.later u.below
  have HG2 : Hid (w.grownBy u.at_ (some B)) := grown_below HG1.out u.below
  obtain ⟨w2, hw2⟩ : ∃ w2, w2 = u.at_ := ⟨_, rfl⟩
  rw [← hw2] at HR2 HZ2 HG2 ⊢
  clear hw2 c0 c1 HR1 HZ0 HG1 HCUT hne HM1
  cases hcl : cl with
  | false =>
    have HX : Hid (class_ s o i = .bad o 43) := by show _ = _; rw [HX0.out, hcl]; rfl
    clear hcl
    go_wp2_with fail
    refine (giveUp_any o 43 _).mono ?_
    rintro e w3 ⟨rfl, k3⟩
    go_wp2
    refine ⟨rfl, ?_⟩
    unfold Reads
    rw [HX.out]
    exact ⟨rfl, grown_below HG2.out k3⟩
  | true =>
    rw [hcl] at HX0 HROOM
    clear hcl
    go_wp2_with fail
    refine (class_any nm _).mono ?_
    rintro e w3 ⟨rfl, k3⟩
    obtain ⟨x, hx⟩ : ∃ x, x = (classOf nm).1 := ⟨_, rfl⟩
    obtain ⟨z, hz⟩ : ∃ z, z = (classOf nm).2 := ⟨_, rfl⟩
    rw [← hx, ← hz] at HX0 ⊢
    clear hx hz
    have HR3 : Hid (RB w3 B s i d) := HR2.out.later k3
    have HZ3 : Hid (SB w3 R Oct.none) := HZ2.out.later k3
    have HG3 : Hid (w.grownBy w3 (some B)) := grown_below HG2.out k3
    clear k3 HR2 HZ2 HG2
    have HRn : Hid (R < w3.heap.size) := HZ3.out.lt
    have HX3 : Hid (SB (w3.alloc (.cells #[.int .u64 (Oct.word x 0 : Nat), .int .u64 (Oct.word x 1 : Nat), .int .u64 (Oct.word x 2 : Nat), .int .u64 (Oct.word x 3 : Nat)] 28)) w3.heap.size x) := sb_new w3 x
    have hal : Below w3.heap.size w3 (w3.alloc (.cells #[.int .u64 (Oct.word x 0 : Nat), .int .u64 (Oct.word x 1 : Nat), .int .u64 (Oct.word x 2 : Nat), .int .u64 (Oct.word x 3 : Nat)] 28)) := (Below.refl _ _).alloc (Nat.le_refl _) _
    have HR4 : Hid (RB (w3.alloc (.cells #[.int .u64 (Oct.word x 0 : Nat), .int .u64 (Oct.word x 1 : Nat), .int .u64 (Oct.word x 2 : Nat), .int .u64 (Oct.word x 3 : Nat)] 28)) B s i d) := HR3.out.later hal
    have HZ4 : Hid (SB (w3.alloc (.cells #[.int .u64 (Oct.word x 0 : Nat), .int .u64 (Oct.word x 1 : Nat), .int .u64 (Oct.word x 2 : Nat), .int .u64 (Oct.word x 3 : Nat)] 28)) R Oct.none) := HZ3.out.later hal
    have HG4 : Hid (w.grownBy (w3.alloc (.cells #[.int .u64 (Oct.word x 0 : Nat), .int .u64 (Oct.word x 1 : Nat), .int .u64 (Oct.word x 2 : Nat), .int .u64 (Oct.word x 3 : Nat)] 28)) (some B)) := grown_below HG3.out hal
    obtain ⟨Y, hY⟩ : ∃ Y, Y = w3.heap.size := ⟨_, rfl⟩
    obtain ⟨w4, hw4⟩ : ∃ w4, w4 = w3.alloc (.cells #[.int .u64 (Oct.word x 0 : Nat), .int .u64 (Oct.word x 1 : Nat), .int .u64 (Oct.word x 2 : Nat), .int .u64 (Oct.word x 3 : Nat)] 28) := ⟨_, rfl⟩
    rw [← hw4] at HR4 HZ4 HG4
    rw [← hw4, ← hY] at HX3
    have HBY : Hid (Y ≠ B) := by have := HR3.out.lt; show _ ≠ _; omega
    have HRY : Hid (R ≠ Y) := by have := HRn.out; show _ ≠ _; omega
    have HW4 : Hid (w4 = _) := hw4
    have HYY : Hid (Y = _) := hY
    clear hw4 hY hal HR3 HZ3 HG3 HRn
    unfold setV
    go_upto_region 5 with fail
    rw [← HW4.out, ← HYY.out]
    clear HW4 HYY
    obtain ⟨d0, d1, d2⟩ := HR4.out.cells
    have fd := HR4.out.frozen 1
    by_cases hz0 : z = 0
    · subst hz0
      have HX : Hid (class_ s o i = .ok x (i + 2 + nm.size + 2)) := by show _ = _; rw [HX0.out]; rfl
      have hroom := HROOM.out trivial
      have hn3 : nm.size ≤ 1024 := by omega
      go_upto_region 8 with fail
      obtain ⟨w5, hw5⟩ : ∃ w5, w5 = w4.setCell ⟨B, 1, none⟩ (.int .i64 ((i : Int) + (2 + (nm.size : Int) + 2))) := ⟨_, rfl⟩
      have ej : ((i : Int) + (2 + (nm.size : Int) + 2)) = ((i + 2 + nm.size + 2 : Nat) : Int) := by omega
      have HR5 : Hid (RB w5 B s (i + 2 + nm.size + 2) d) := by rw [hw5, ej]; exact HR4.out.at _
      have HZ5 : Hid (SB w5 R Oct.none) := by rw [hw5]; exact HZ4.out.other HBR.out _ _
      have HY5 : Hid (SB w5 Y x) := by rw [hw5]; exact HX3.out.other HBY.out _ _
      have HG5 : Hid (w.grownBy w5 (some B)) := by rw [hw5]; exact grown_trans HG4.out (grown_set _ _ _ _)
      rw [← hw5]
      clear hw5 ej d0 d1 d2 fd
      obtain ⟨z0, z1, z2, z3⟩ := HZ5.out.cells
      obtain ⟨p0, p1, p2, p3⟩ := HY5.out.cells
      have y0 := HZ5.out.frozen 0
      have y1 := HZ5.out.frozen 1
      have y2 := HZ5.out.frozen 2
      have y3 := HZ5.out.frozen 3
      go_wp2
      refine post_set Tryz.f100 4 rfl rfl rfl (HZ5.out.put4 x) ?_
      unfold Reads
      rw [HX.out]
      exact ⟨hroom, _, rfl, rfl, (rb_put4 HR5.out HBR.out _), grown_put4 HG5.out (by rw [HRR.out]; exact Nat.le_refl _) _⟩
    · have HX : Hid (class_ s o i = .bad i z) := by show _ = _; rw [HX0.out]; simp [hz0]
      have g1 : ¬ ((z : Int) = 0) := by omega
      have g2 : ((z : Int) == 0) = false := by simp; omega
      have g3 : ((z : Int) != 0) = true := by simp; omega
      go_wp2_with fail
      refine (giveUp_any i z _).mono ?_
      rintro e w5 ⟨rfl, k5⟩
      go_wp2
      refine ⟨rfl, ?_⟩
      unfold Reads
      rw [HX.out]
      exact ⟨rfl, grown_below HG4.out k5⟩
end Go.Proofs.YtmjnobdlgbojoaaGreatDoor
