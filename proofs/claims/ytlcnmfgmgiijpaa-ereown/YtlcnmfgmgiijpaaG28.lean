/- Two patterns that agree ahead of a place: parsed. -/
import Derived.Test.YtlcnmfgmgiijpaaG18
import Derived.Test.YtlcnmfgmgiijpaaG23
import Derived.Test.YtlcnmfgmgiijpaaG17
import Derived.Test.YtlcnmfgmgiijpaaG26
namespace Go.Proofs.Ytlcnmfgmgiijpaa

/-- a bracket that nothing closes is the opening one -/
theorem read_open (s : ByteArray) (n : Nat) : (∀ d i a, pat s n d i = .bad a 42 → byt s a = 40) ∧ (∀ d acc i a, patLoop s n d acc i = .bad a 42 → byt s a = 40) ∧ (∀ d i a, alt s n d i = .bad a 42 → byt s a = 40) ∧ (∀ d acc i a, altLoop s n d acc i = .bad a 42 → byt s a = 40) ∧ (∀ d i a, piece s n d i = .bad a 42 → byt s a = 40) ∧ (∀ d i a, atom s n d i = .bad a 42 → byt s a = 40) ∧ (∀ d i a, byt s i = 40 → group s n d i = .bad a 42 → byt s a = 40) := by
  induction n with
  | zero => refine ⟨?_, ?_, ?_, ?_, ?_, ?_, ?_⟩ <;> intros <;> simp_all [pat, patLoop, alt, altLoop, piece, atom, group]
  | succ n ih =>
    obtain ⟨i1, i2, i3, i4, i5, i6, i7⟩ := ih
    refine ⟨fun d i a h => ?_, fun d acc i a h => ?_, fun d i a h => ?_, fun d acc i a h => ?_, fun d i a h => ?_, fun d i a h => ?_, fun d i a h40 h => ?_⟩
    · rw [pat] at h
      split at h
      · exact i2 _ _ _ _ h
      · rename_i hc; cases h; exact i3 _ _ _ hc
      · cases h
    · rw [patLoop] at h
      split at h
      · split at h
        · exact i2 _ _ _ _ h
        · rename_i hc; cases h; exact i3 _ _ _ hc
        · cases h
      · cases h
    · rw [alt] at h
      exact i4 _ _ _ _ h
    · rw [altLoop] at h
      split at h
      · split at h
        · exact i4 _ _ _ _ h
        · rename_i hc; cases h; exact i5 _ _ _ hc
        · cases h
      · cases h
    · rw [piece] at h
      split at h
      · cases h
      · split at h
        · cases h
        · split at h
          · have := repeated_bad h; omega
          · rename_i hc; cases h; exact i6 _ _ _ hc
          · cases h
    · rw [atom] at h
      split at h
      · cases h
      · split at h
        · rename_i g; exact i7 _ _ _ g h
        · split at h
          · split at h
            · cases h
            · rename_i hc; cases h; have := setOf_bad hc; omega
            · cases h
          · split at h
            · cases h
            · split at h
              · split at h
                · cases h
                · cases h
              · cases h
    · rw [group] at h
      split at h
      · cases h
      · split at h
        · split at h
          · cases h; exact h40
          · cases h
        · rename_i hc; cases h; exact i1 _ _ _ hc
        · cases h
/-- the fault of a pattern stands whatever is behind it -/
theorem whole_agree {s s' : ByteArray} {a e : Nat} (hw : wholeOf s = .bad a e) (he : Met e ∨ (e = 42 ∧ byt s a = 41)) (h : Agree s s' (a + mr e)) : wholeOf s' = .bad a e := by
  have hl := h.le
  have hl' := h.le'
  have hmr := mr_pos e
  obtain ⟨n, hn1, hn2⟩ : ∃ n, 8 * s.size + 8 ≤ n ∧ 8 * s'.size + 8 ≤ n := ⟨8 * s.size + 8 + (8 * s'.size + 8), by omega, by omega⟩
  have hR := (h.read n).1
  unfold wholeOf at hw ⊢
  rw [← patOf_eq hn1] at hw
  rw [← patOf_eq hn2]
  cases hc : pat s n 0 0 with
  | out => rw [hc] at hw; cases hw
  | bad a' e' =>
    rw [hc] at hw
    cases hw
    rcases he with he | ⟨rfl, h41⟩
    · rw [(hR.2 _ _ _ _ hc he (Nat.le_refl _)).2]
    · have := (read_open s n).1 _ _ _ hc
      omega
  | ok t j =>
    rw [hc] at hw
    simp only at hw
    split at hw
    · split at hw
      · cases hw
        unfold Met at he
        omega
      · cases hw
    · rename_i hne
      cases hw
      rw [hR.1 _ _ _ _ hc (by omega)]
      simp only
      rw [if_neg (by omega)]
end Go.Proofs.Ytlcnmfgmgiijpaa

/- The beginning of a pattern and another end. -/
namespace Go.Proofs.Ytlcnmfgmgiijpaa

theorem list_q (p t : ByteArray) (k : Nat) (_hk : k ≤ p.size) : (p.extract 0 k ++ t).data.toList = p.data.toList.take k ++ t.data.toList := by
  rw [ByteArray.data_append, Array.toList_append]
  congr 1
  rw [ByteArray.data_extract, Array.toList_extract]
  simp
theorem byt_q (p t : ByteArray) (k i : Nat) (hk : k ≤ p.size) (hi : i < k) : byt (p.extract 0 k ++ t) i = byt p i := by
  rw [byt_list, byt_list, list_q p t k hk]
  have hl : p.data.toList.length = p.size := by simp
  rw [List.getD_eq_getElem?_getD, List.getD_eq_getElem?_getD, List.getElem?_append_left (by rw [List.length_take, hl]; omega), List.getElem?_take, if_pos hi]
theorem size_q (p t : ByteArray) (k : Nat) (hk : k ≤ p.size) : (p.extract 0 k ++ t).size = k + t.size := by
  have h := congrArg List.length (list_q p t k hk)
  have hl : p.data.toList.length = p.size := by simp
  have hl2 : t.data.toList.length = t.size := by simp
  have hl3 : (p.extract 0 k ++ t).data.toList.length = (p.extract 0 k ++ t).size := by simp
  rw [List.length_append, List.length_take, hl, hl2, hl3] at h
  omega
theorem parse_agree {p t : ByteArray} {a e : Nat} (hw : parseOf p = .bad a e) (he : Met e ∨ (e = 42 ∧ byt p a = 41)) (hk : a + mr e ≤ p.size) (hq : a + mr e + t.size ≤ 1024) (ht : ¬ (10 : UInt8) ∈ t.data.toList) : parseOf (p.extract 0 (a + mr e) ++ t) = .bad a e := by
  have hz := size_q p t (a + mr e) hk
  unfold parseOf at hw
  split at hw
  · cases hw
    unfold Met at he
    omega
  · split at hw
    · cases hw
      unfold Met at he
      omega
    · rename_i hnl
      have hnq : ¬ 0 ≤ newlineAt (p.extract 0 (a + mr e) ++ t) := by
        unfold newlineAt at hnl ⊢
        rw [indexByte_mem] at hnl ⊢
        rw [list_q p t _ hk]
        intro hm
        rcases List.mem_append.1 hm with hm | hm
        · exact hnl (List.mem_of_mem_take hm)
        · exact ht hm
      unfold parseOf
      rw [if_neg (by omega), if_neg hnq]
      exact whole_agree hw he ⟨fun i hi => (byt_q p t _ i hk hi).symm, hk, by omega⟩
end Go.Proofs.Ytlcnmfgmgiijpaa

/- EreFaults, walked. -/
namespace Go.Proofs.Ytlcnmfgmgiijpaa
open Go.RowKit
attribute [local go_sem ↓] Go.wp_at_zero Go.wp_at_succ

theorem indexByte_le (l : List UInt8) (c : UInt8) : Go.Lib.indexByte l c ≤ l.length := by
  induction l with
  | nil => simp [Go.Lib.indexByte]
  | cons b l ih =>
    unfold Go.Lib.indexByte
    simp only [List.length_cons]
    split
    · omega
    · split <;> omega
theorem parse_at {p : ByteArray} {a e : Nat} (h : parseOf p = .bad a e) : a ≤ 1024 := by
  unfold parseOf at h
  split at h
  · cases h; omega
  · split at h
    · cases h
      have h1 := indexByte_le p.data.toList 10
      have hl : p.data.toList.length = p.size := by simp
      unfold newlineAt
      omega
    · unfold wholeOf at h
      have hr := (read_at p (8 * p.size + 8)).1 0 0 (Nat.zero_le _)
      split at h
      · rename_i t j hc
        have hj := hr.1 _ _ hc
        split at h
        · split at h
          · cases h; omega
          · cases h
        · cases h; omega
      · rename_i a' e' hc
        cases h
        have := hr.2 _ _ hc
        omega
      · cases h
theorem parse_uni (p : ByteArray) (w : World) (gm : GM w) : Calls Try.prog 9 #[.string p] w fun e w' => Below w.heap.size w w' ∧ ∃ (x : Nd) (a c : Nat), e = .returned (.tuple #[x.val, .int .i64 (a : Nat), .int .i64 (c : Nat)]) ∧ a ≤ 1024 ∧ (parseOf p = .bad a c ∨ (a = 0 ∧ c = 0)) := by
  refine (Parse_any p w gm).mono (fun e w' h => ?_)
  unfold ParsePost at h
  obtain ⟨h1, h2⟩ := h
  refine ⟨h1, ?_⟩
  cases hc : parseOf p with
  | ok t j =>
    rw [hc] at h2
    obtain ⟨x, he, _⟩ := h2
    exact ⟨x, 0, 0, he, by omega, .inr ⟨rfl, rfl⟩⟩
  | bad a c =>
    rw [hc] at h2
    exact ⟨zeroNd, a, c, h2, parse_at hc, .inl rfl⟩
  | out => rw [hc] at h2; exact h2.elim
set_option maxRecDepth 4000 in
set_option maxHeartbeats 4000000 in
theorem faults_any (p t : ByteArray) (w : World) (gm : GM w) (ht : t.size ≤ 1000000000000000000) : Calls Try.prog 3 #[.string p, .string t] w fun e w' => e = .returned (.bool true) ∧ Below w.heap.size w w' := by
  have HGM : Hid (GM w) := gm
  clear gm
  go_enter Try.func3, Try.ntmps3
  go_wp2_with fail
  refine (known_any w HGM.out).mono ?_
  rintro e u1 ⟨rfl, k1⟩
  have HB1 : Hid (Below w.heap.size w u1) := k1
  clear k1
  go_wp2_with fail
  refine (parse_uni p u1 (HGM.out.later HB1.out)).mono ?_
  rintro e u2 ⟨k2, x, a, c, rfl, ha, hpc⟩
  have k3 : Below u2.heap.size u2 (u2.alloc (.cells #[.int .i64 x.k, .int .u64 (Oct.word x.s 0 : Nat), .int .u64 (Oct.word x.s 1 : Nat), .int .u64 (Oct.word x.s 2 : Nat), .int .u64 (Oct.word x.s 3 : Nat), .slice x.a x.n x.c, .int .i64 x.mn, .int .i64 x.mx] 28)) := (Below.refl _ _).alloc (Nat.le_refl _) _
  have HB3 : Hid (Below w.heap.size w (u2.alloc (.cells #[.int .i64 x.k, .int .u64 (Oct.word x.s 0 : Nat), .int .u64 (Oct.word x.s 1 : Nat), .int .u64 (Oct.word x.s 2 : Nat), .int .u64 (Oct.word x.s 3 : Nat), .slice x.a x.n x.c, .int .i64 x.mn, .int .i64 x.mx] 28))) := below_step (below_step HB1.out k2) k3
  obtain ⟨u3, hu3⟩ : ∃ u3, u2.alloc (.cells #[.int .i64 x.k, .int .u64 (Oct.word x.s 0 : Nat), .int .u64 (Oct.word x.s 1 : Nat), .int .u64 (Oct.word x.s 2 : Nat), .int .u64 (Oct.word x.s 3 : Nat), .slice x.a x.n x.c, .int .i64 x.mn, .int .i64 x.mx] 28) = u3 := ⟨_, rfl⟩
  rw [hu3] at HB3
  have HU3 : Hid (_ = u3) := hu3
  have HPC : Hid (parseOf p = .bad a c ∨ (a = 0 ∧ c = 0)) := hpc
  clear k2 k3 hu3 hpc
  unfold Nd.val
  go_upto_region 4 with fail
  rw [HU3.out]
  clear HU3
  go_wp2_with fail
  go_loopw [8] (fun i u => ∃ k : Nat, i = .int .i64 (k : Nat) ∧ k ≤ t.size ∧ Hid (∀ j, j < k → byt t j ≠ 10) ∧ Hid (Below w.heap.size w u)) (fun i _ => t.size - (intOf i).toNat)
  case atStart => exact ⟨0, rfl, Nat.zero_le _, fun j hj => by omega, HB3⟩
  case round =>
    clear HB3
    obtain ⟨k, rfl, hk, HNO, HBU⟩ := hrel
    by_cases hlt : k < t.size
    · have hlt' : (k : Int) < (t.size : Int) := by omega
      by_cases h10 : t[k].toNat = 10
      · have g1 : ((t[k].toNat : Int) == 10) = true := by simp; omega
        clear h10
        go_wp2
        go_ret
        exact ⟨rfl, HBU.out⟩
      · have g1 : ((t[k].toNat : Int) == 10) = false := by simp; omega
        have HN2 : Hid (∀ j, j < k + 1 → byt t j ≠ 10) := fun j hj => by
          by_cases e : j = k
          · rw [e, byt_eq hlt]; exact h10
          · exact HNO.out j (by omega)
        clear h10
        go_wp2
        go_roundw
        case rel => exact ⟨k + 1, by go_num, by omega, HN2, HBU⟩
        case measure => simp [intOf]; omega
    · have hke : k = t.size := by omega
      have HNT : Hid (¬ (10 : UInt8) ∈ t.data.toList) := fun hm => by
        obtain ⟨i, hi, he⟩ := List.getElem_of_mem hm
        have hl : t.data.toList.length = t.size := by simp
        have h1 := HNO.out i (by omega)
        rw [byt_list, List.getD_eq_getElem?_getD, List.getElem?_eq_getElem hi, he] at h1
        exact h1 rfl
      clear HNO
      go_wp2_with fail
      refine (num_any (c : Nat) _).mono ?_
      rintro e w' ⟨rfl, hw'⟩
      have hw' := hw'.symm
      subst hw'
      by_cases h44 : c = 44
      · have hc := h44
        have q44 : ((c : Int) == 44) = true := by simp; omega
        have q47 : ((c : Int) == 47) = false := by simp; omega
        have q46 : ((c : Int) == 46) = false := by simp; omega
        have q42 : ((c : Int) == 42) = false := by simp; omega
        by_cases hlen : a + 1 ≤ p.size
        · have n1 : ¬ (p.size : Int) < (a : Int) + 1 := by omega
          by_cases hall : a + 1 + t.size ≤ 1024
          · have n2 : ¬ (1024 : Int) < (a : Int) + 1 + (t.size : Int) := by omega
            have HQ : Hid (parseOf (p.extract 0 (a + 1) ++ t) = .bad a 44) := by
              have hb : parseOf p = .bad a 44 := by
                rcases HPC.out with h | h
                · rw [h, hc]
                · omega
              exact parse_agree (e := 44) hb (.inl (by unfold Met; omega)) hlen hall HNT.out
            have HQC : Hid (∀ u, GM u → Calls Try.prog 9 #[.string (p.extract 0 (a + 1) ++ t)] u fun e w' => Below u.heap.size u w' ∧ e = .returned (.tuple #[zeroNd.val, .int .i64 (a : Nat), .int .i64 44])) := fun u hu => (Parse_any _ u hu).mono (fun e w' h => by
              unfold ParsePost at h
              rw [HQ.out] at h
              exact h)
            go_wp2_with fail
            refine (HQC.out wr (HGM.out.later HBU.out)).mono ?_
            rintro e u5 ⟨k5, rfl⟩
            have HB5 : Hid (Below w.heap.size w u5) := below_step HBU.out k5
            clear k5 HQC HQ
            unfold Nd.val
            go_wp2
            go_ret
            exact ⟨rfl, below_step HB5.out ((Below.refl _ _).alloc (Nat.le_refl _) _)⟩
          · have n2 : (1024 : Int) < (a : Int) + 1 + (t.size : Int) := by omega
            go_wp2
            go_ret
            exact ⟨rfl, HBU.out⟩
        · have n1 : (p.size : Int) < (a : Int) + 1 := by omega
          go_wp2
          go_ret
          exact ⟨rfl, HBU.out⟩
      · by_cases h47 : c = 47
        · have hc := h47
          have q44 : ((c : Int) == 44) = false := by simp; omega
          have q47 : ((c : Int) == 47) = true := by simp; omega
          have q46 : ((c : Int) == 46) = false := by simp; omega
          have q42 : ((c : Int) == 42) = false := by simp; omega
          by_cases hlen : a + 1 ≤ p.size
          · have n1 : ¬ (p.size : Int) < (a : Int) + 1 := by omega
            by_cases hall : a + 1 + t.size ≤ 1024
            · have n2 : ¬ (1024 : Int) < (a : Int) + 1 + (t.size : Int) := by omega
              have HQ : Hid (parseOf (p.extract 0 (a + 1) ++ t) = .bad a 47) := by
                have hb : parseOf p = .bad a 47 := by
                  rcases HPC.out with h | h
                  · rw [h, hc]
                  · omega
                exact parse_agree (e := 47) hb (.inl (by unfold Met; omega)) hlen hall HNT.out
              have HQC : Hid (∀ u, GM u → Calls Try.prog 9 #[.string (p.extract 0 (a + 1) ++ t)] u fun e w' => Below u.heap.size u w' ∧ e = .returned (.tuple #[zeroNd.val, .int .i64 (a : Nat), .int .i64 47])) := fun u hu => (Parse_any _ u hu).mono (fun e w' h => by
                unfold ParsePost at h
                rw [HQ.out] at h
                exact h)
              go_wp2_with fail
              refine (HQC.out wr (HGM.out.later HBU.out)).mono ?_
              rintro e u5 ⟨k5, rfl⟩
              have HB5 : Hid (Below w.heap.size w u5) := below_step HBU.out k5
              clear k5 HQC HQ
              unfold Nd.val
              go_wp2
              go_ret
              exact ⟨rfl, below_step HB5.out ((Below.refl _ _).alloc (Nat.le_refl _) _)⟩
            · have n2 : (1024 : Int) < (a : Int) + 1 + (t.size : Int) := by omega
              go_wp2
              go_ret
              exact ⟨rfl, HBU.out⟩
          · have n1 : (p.size : Int) < (a : Int) + 1 := by omega
            go_wp2
            go_ret
            exact ⟨rfl, HBU.out⟩
        · by_cases h46 : c = 46
          · have hc := h46
            have q44 : ((c : Int) == 44) = false := by simp; omega
            have q47 : ((c : Int) == 47) = false := by simp; omega
            have q46 : ((c : Int) == 46) = true := by simp; omega
            have q42 : ((c : Int) == 42) = false := by simp; omega
            by_cases hlen : a + 2 ≤ p.size
            · have n1 : ¬ (p.size : Int) < (a : Int) + 2 := by omega
              by_cases hall : a + 2 + t.size ≤ 1024
              · have n2 : ¬ (1024 : Int) < (a : Int) + 2 + (t.size : Int) := by omega
                have HQ : Hid (parseOf (p.extract 0 (a + 2) ++ t) = .bad a 46) := by
                  have hb : parseOf p = .bad a 46 := by
                    rcases HPC.out with h | h
                    · rw [h, hc]
                    · omega
                  exact parse_agree (e := 46) hb (.inl (by unfold Met; omega)) hlen hall HNT.out
                have HQC : Hid (∀ u, GM u → Calls Try.prog 9 #[.string (p.extract 0 (a + 2) ++ t)] u fun e w' => Below u.heap.size u w' ∧ e = .returned (.tuple #[zeroNd.val, .int .i64 (a : Nat), .int .i64 46])) := fun u hu => (Parse_any _ u hu).mono (fun e w' h => by
                  unfold ParsePost at h
                  rw [HQ.out] at h
                  exact h)
                go_wp2_with fail
                refine (HQC.out wr (HGM.out.later HBU.out)).mono ?_
                rintro e u5 ⟨k5, rfl⟩
                have HB5 : Hid (Below w.heap.size w u5) := below_step HBU.out k5
                clear k5 HQC HQ
                unfold Nd.val
                go_wp2
                go_ret
                exact ⟨rfl, below_step HB5.out ((Below.refl _ _).alloc (Nat.le_refl _) _)⟩
              · have n2 : (1024 : Int) < (a : Int) + 2 + (t.size : Int) := by omega
                go_wp2
                go_ret
                exact ⟨rfl, HBU.out⟩
            · have n1 : (p.size : Int) < (a : Int) + 2 := by omega
              go_wp2
              go_ret
              exact ⟨rfl, HBU.out⟩
          · by_cases h42 : c = 42
            · have hc := h42
              have q44 : ((c : Int) == 44) = false := by simp; omega
              have q47 : ((c : Int) == 47) = false := by simp; omega
              have q46 : ((c : Int) == 46) = false := by simp; omega
              have q42 : ((c : Int) == 42) = true := by simp; omega
              by_cases hin : a < p.size
              · have hin' : (a : Int) < (p.size : Int) := by omega
                have n0 : ¬ (p.size : Int) ≤ (a : Int) := by omega
                have n0b : decide ((p.size : Int) ≤ (a : Int)) = false := decide_eq_false n0
                by_cases h41 : p[a].toNat = 41
                · have g41 : ((p[a].toNat : Int) != 41) = false := by simp; omega
                  have H41 : Hid (byt p a = 41) := by show _ = _; rw [byt_eq hin]; exact h41
                  clear h41
                  by_cases hlen : a + 1 ≤ p.size
                  · have n1 : ¬ (p.size : Int) < (a : Int) + 1 := by omega
                    by_cases hall : a + 1 + t.size ≤ 1024
                    · have n2 : ¬ (1024 : Int) < (a : Int) + 1 + (t.size : Int) := by omega
                      have HQ : Hid (parseOf (p.extract 0 (a + 1) ++ t) = .bad a 42) := by
                        have hb : parseOf p = .bad a 42 := by
                          rcases HPC.out with h | h
                          · rw [h, hc]
                          · omega
                        exact parse_agree (e := 42) hb (.inr ⟨rfl, H41.out⟩) hlen hall HNT.out
                      have HQC : Hid (∀ u, GM u → Calls Try.prog 9 #[.string (p.extract 0 (a + 1) ++ t)] u fun e w' => Below u.heap.size u w' ∧ e = .returned (.tuple #[zeroNd.val, .int .i64 (a : Nat), .int .i64 42])) := fun u hu => (Parse_any _ u hu).mono (fun e w' h => by
                        unfold ParsePost at h
                        rw [HQ.out] at h
                        exact h)
                      go_wp2_with fail
                      refine (HQC.out wr (HGM.out.later HBU.out)).mono ?_
                      rintro e u5 ⟨k5, rfl⟩
                      have HB5 : Hid (Below w.heap.size w u5) := below_step HBU.out k5
                      clear k5 HQC HQ
                      unfold Nd.val
                      go_wp2
                      go_ret
                      exact ⟨rfl, below_step HB5.out ((Below.refl _ _).alloc (Nat.le_refl _) _)⟩
                    · have n2 : (1024 : Int) < (a : Int) + 1 + (t.size : Int) := by omega
                      go_wp2
                      go_ret
                      exact ⟨rfl, HBU.out⟩
                  · exact absurd hin (by omega)
                · have g41 : ((p[a].toNat : Int) != 41) = true := by simp; omega
                  clear h41
                  go_wp2
                  go_ret
                  exact ⟨rfl, HBU.out⟩
              · have n0 : (p.size : Int) ≤ (a : Int) := by omega
                have n0b : decide ((p.size : Int) ≤ (a : Int)) = true := decide_eq_true n0
                go_wp2
                go_ret
                exact ⟨rfl, HBU.out⟩
            · have q44 : ((c : Int) == 44) = false := by simp; omega
              have q47 : ((c : Int) == 47) = false := by simp; omega
              have q46 : ((c : Int) == 46) = false := by simp; omega
              have q42 : ((c : Int) == 42) = false := by simp; omega
              go_wp2
              go_ret
              exact ⟨rfl, HBU.out⟩
end Go.Proofs.Ytlcnmfgmgiijpaa
