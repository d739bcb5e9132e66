/- The contract of the document's Spans of layer 3: by walking its body. -/
import Derived.Test.YtkgpmaclaahmbaaPairs
import Derived.Deep.DeepMust
namespace Go.Proofs.Ytkgpmaclaahmbaa
open Go.RowKit

/-- is a row open at a byte: does the set have the byte ahead of it? -/
def opn (s : Oct.S) : Nat → Bool
  | 0 => false
  | k + 1 => s k
/-- where the row that is open begins -/
def st (s : Oct.S) : Nat → Nat
  | 0 => 0
  | k + 1 => if opn s k then st s k else k
/-- the rows that are closed -/
def closed (s : Oct.S) : Nat → List (Nat × Nat)
  | 0 => []
  | k + 1 => if opn s k && !(s k) then closed s k ++ [(st s k, k - 1)] else closed s k
/-- the rows, the open one too -/
def refRows (s : Oct.S) (k : Nat) : List (Nat × Nat) := closed s k ++ (if opn s k then [(st s k, k - 1)] else [])
theorem closed_lt (s : Oct.S) (k : Nat) : ∀ x ∈ closed s k, x.2 + 1 < k ∧ x.1 < k := by
  induction k with
  | zero => simp [closed]
  | succ k ih =>
    intro x hx
    simp only [closed] at hx
    split at hx
    · rename_i h
      rcases List.mem_append.1 hx with h1 | h1
      · have := ih x h1; omega
      · simp at h1
        subst h1
        have hk : 0 < k := by
          cases k with
          | zero => simp [opn] at h
          | succ k => omega
        have hs : ∀ j, st s j ≤ j := fun j => by
          induction j with
          | zero => simp [st]
          | succ j ihj => simp only [st]; split <;> omega
        have := hs k
        simp
        omega
    · have := ih x hx; omega
theorem closed_length (s : Oct.S) (k : Nat) : (closed s k).length ≤ k := by
  induction k with
  | zero => simp [closed]
  | succ k ih =>
    simp only [closed]
    split
    · simp; omega
    · omega
theorem ref_zero (s : Oct.S) : refRows s 0 = [] := by simp [refRows, closed, opn]
theorem opn_succ (s : Oct.S) (k : Nat) : opn s (k + 1) = s k := rfl
theorem st_succ (s : Oct.S) (k : Nat) : st s (k + 1) = if opn s k then st s k else k := rfl
theorem closed_succ (s : Oct.S) (k : Nat) : closed s (k + 1) = if opn s k && !(s k) then closed s k ++ [(st s k, k - 1)] else closed s k := rfl
theorem ref_no (s : Oct.S) (k : Nat) (h : s k = false) : refRows s (k + 1) = refRows s k := by
  unfold refRows
  rw [closed_succ, opn_succ, h]
  cases ho : opn s k <;> simp
theorem ref_new (s : Oct.S) (k : Nat) (h : s k = true) (ho : opn s k = false) : refRows s (k + 1) = refRows s k ++ [(k, k)] := by
  unfold refRows
  rw [closed_succ, opn_succ, st_succ, h, ho]
  simp
theorem ref_more (s : Oct.S) (k : Nat) (h : s k = true) (ho : opn s k = true) : refRows s k = closed s k ++ [(st s k, k - 1)] ∧ refRows s (k + 1) = closed s k ++ [(st s k, k)] := by
  constructor
  · unfold refRows
    rw [ho]
    rfl
  · unfold refRows
    rw [closed_succ, opn_succ, st_succ, h, ho]
    simp
theorem ref_length (s : Oct.S) (k : Nat) : (refRows s k).length ≤ k + 1 := by
  have := closed_length s k
  unfold refRows
  split <;> simp <;> omega
theorem opn_pos {s : Oct.S} {k : Nat} (h : opn s k = true) : 0 < k := by
  cases k with
  | zero => simp [opn] at h
  | succ k => omega

theorem exists_last {α : Type} {l : List α} (h : l ≠ []) : ∃ r x, l = r ++ [x] := ⟨l.dropLast, l.getLast h, (List.dropLast_concat_getLast h).symm⟩
theorem keep_sb0 {w w' : World} {A : Nat} {s : Oct.S} (h : SB w A s) (hk : Below w.heap.size w w') (hA : A < w.heap.size) : SB w' A s := (hk.block A hA).trans h
theorem ownsP_lower {w : World} {B B' : Nat} {v : Value} {l : List (Nat × Nat)} (h : OwnsP w B v l) (hb : B' ≤ B) : OwnsP w B' v l := by
  refine ⟨⟨h.1.1, ?_⟩, h.2⟩
  rcases h.1.2 with h2 | ⟨g, cap, cur, hv, hBg, rest⟩
  · exact Or.inl h2
  · exact Or.inr ⟨g, cap, cur, hv, by omega, rest⟩
set_option maxRecDepth 4000 in
set_option maxHeartbeats 4000000 in
theorem rspans_any (s : Oct.S) (w : World) : Calls Try.prog 17 #[setV s] w fun e w' => ∃ v, e = .returned v ∧ OwnsP w' w.heap.size v (refRows s 256) ∧ Below w.heap.size w w' := by
  obtain ⟨u0, hu0⟩ : ∃ u0, u0 = w.alloc (.cells #[.int .u64 (Oct.word s 0 : Nat), .int .u64 (Oct.word s 1 : Nat), .int .u64 (Oct.word s 2 : Nat), .int .u64 (Oct.word s 3 : Nat)] 24) := ⟨_, rfl⟩
  have HX0 : Hid (SB u0 w.heap.size s) := by rw [hu0]; exact sb_new w s
  have HW0 : Hid (Below w.heap.size w u0) := by rw [hu0]; exact (Below.refl _ _).alloc (Nat.le_refl _) _
  have HZ0 : Hid (w.heap.size < u0.heap.size) := by rw [hu0]; show _ < _; simp
  have HU : Hid (u0 = _) := hu0
  clear hu0
  unfold setV
  go_enter Try.func17, Try.ntmps17
  go_wp2
  rw [← HU.out]
  clear HU
  go_loopw [3, 4] (fun v i u => ∃ k : Nat, k ≤ 256 ∧ i = .int .i64 k ∧ Hid (SB u w.heap.size s) ∧ Hid (OwnsP u u0.heap.size v (refRows s k)) ∧ Hid (Below u0.heap.size u0 u)) (fun _ i _ => 256 - (intOf i).toNat)
  case atStart => exact ⟨0, Nat.zero_le _, rfl, HX0, by rw [ref_zero]; exact ownsP_nil _ _, Below.refl _ _⟩
  case round =>
    obtain ⟨k, hk, rfl, hx, ho, hb⟩ := hrel
    by_cases hlt : k < 256
    · obtain ⟨c0, c1, c2, c3⟩ := hx.out.cells
      go_wp2_with fail
      refine (rhas_any s k _ hlt).mono ?_
      rintro e w3 ⟨rfl, k3⟩
      have HX3 : Hid (SB w3 w.heap.size s) := hx.out.later k3
      have HO3 : Hid (OwnsP w3 u0.heap.size u3 (refRows s k)) := ho.out.later k3
      have HB3 : Hid (Below u0.heap.size u0 w3) := below_trans hb.out k3 hb.out.size
      clear hx ho hb k3 c0 c1 c2 c3
      cases hs : s k with
      | false =>
        have HR : Hid (refRows s (k + 1) = refRows s k) := ref_no s k hs
        clear hs
        go_wp2
        go_roundw
        case rel => exact ⟨k + 1, by omega, by go_num, HX3, by rw [HR.out]; exact HO3, HB3⟩
        case measure => simp [intOf]; omega
      | true =>
        have HS : Hid (s k = true) := hs
        clear hs
        have hlen := ref_length s k
        have HLEN : Hid ((refRows s k).length ≤ 1000000) := by show _ ≤ _; omega
        clear hlen
        cases hop : opn s k with
        | true =>
          obtain ⟨e1, e2⟩ := ref_more s k HS.out hop
          have hk0 := opn_pos hop
          have hcl := closed_length s k
          obtain ⟨m, hm⟩ : ∃ m, m = (closed s k).length := ⟨_, rfl⟩
          obtain ⟨N, hN⟩ : ∃ N, N = (closed s k ++ [(st s k, k - 1)]).length := ⟨_, rfl⟩
          have hNm : N = m + 1 := by rw [hN, hm]; simp
          rw [e1] at HO3
          obtain ⟨g, c, hv, hg, _, _⟩ := HO3.out.form (by simp)
          rw [← hN] at hv
          subst hv
          have hcell := (HO3.out.cells (k := m) (s := (st s k, k - 1)) hN (by rw [hm]; simp)).2
          have hfr := HO3.out.frozen hN (m * 2 + 1)
          have HNN : Hid (N = (closed s k ++ [(st s k, k - 1)]).length) := hN
          have HM : Hid (m = (closed s k).length) := hm
          have HE2 : Hid (refRows s (k + 1) = closed s k ++ [(st s k, k)]) := e2
          have HG : Hid (u0.heap.size ≤ g) := hg
          obtain ⟨q, hq⟩ : ∃ q, q = k - 1 := ⟨_, rfl⟩
          have hcell2 : w3.cell? ⟨g, m * 2 + 1, none⟩ = some (.int .i64 (q : Nat)) := by rw [hq]; exact hcell
          have heq : ((q : Int) == (k : Int) - 1) = true := by simp; omega
          have heqp : (q : Int) = (k : Int) - 1 := by omega
          have HEP : Hid ((q : Int) = (k : Int) - 1) := heqp
          have hN1 : (N : Int) - 1 = (m : Int) := by omega
          have hN2 : (0 : Int) < (N : Int) := by omega
          have hm0 : (0 : Int) ≤ (m : Int) := by omega
          have hm1 : (m : Int) < (N : Int) := by omega
          have hNb : (N : Int) ≤ 1000 := by omega
          clear hN hm hNm e1 e2 hcl hop hcell hq hg heqp HLEN
          go_wp2
          go_roundw
          case rel => exact ⟨k + 1, by omega, by go_num, HX3.out.other (by have := HZ0.out; have := HG.out; omega) _ _, by rw [HE2.out]; exact HO3.out.put HNN.out k m HM.out, HB3.out.setCell (p := ⟨g, m * 2 + 1, none⟩) HG.out _⟩
          case measure => simp [intOf]; omega
        | false =>
          have HR : Hid (refRows s (k + 1) = refRows s k ++ [(k, k)]) := ref_new s k HS.out hop
          have HRC : Hid (refRows s k = closed s k) := by show _ = _; unfold refRows; rw [hop]; simp
          clear hop
          by_cases hnil : refRows s k = []
          · have hv := HO3.out.2.1 hnil
            subst hv
            have HNIL : Hid (refRows s k = []) := hnil
            clear hnil
            go_wp2_with (at_builtin; go_must (refine wpList_append_pair rfl _ _ rfl u0 w3 _ (refRows s k) rfl HO3.out HB3.out k k rfl rfl HLEN.out ?_; intro v4 w4 ho4 hb4; have HO4 : Hid (OwnsP w4 u0.heap.size v4 (refRows s (k + 1))) := (by rw [HR.out]; exact ho4); have HB4 : Hid (Below u0.heap.size u0 w4) := hb4; have HX4 : Hid (SB w4 w.heap.size s) := keep_sb0 HX0.out hb4 HZ0.out; clear ho4 hb4))
            go_roundw
            case rel => exact ⟨k + 1, by omega, by go_num, HX4, HO4, HB4⟩
            case measure => simp [intOf]; omega
          · obtain ⟨l, x, hlx⟩ := exists_last hnil
            have hq1 : x.2 + 1 < k := (closed_lt s k x (by rw [← HRC.out, hlx]; simp)).1
            have hcl := HLEN.out
            obtain ⟨m, hm⟩ : ∃ m, m = l.length := ⟨_, rfl⟩
            obtain ⟨N, hN⟩ : ∃ N, N = (refRows s k).length := ⟨_, rfl⟩
            have hNm : N = m + 1 := by rw [hN, hm, hlx]; simp
            obtain ⟨g, c, hv, hg, _, _⟩ := HO3.out.form hnil
            rw [← hN] at hv
            subst hv
            have hcell := (HO3.out.cells (k := m) (s := x) hN (by rw [hm, hlx]; simp)).2
            rw [← hN] at hcl
            obtain ⟨q, hq⟩ : ∃ q, q = x.2 := ⟨_, rfl⟩
            rw [← hq] at hcell hq1
            have heq : ((q : Int) == (k : Int) - 1) = false := by simp; omega
            have heqp : ¬ (q : Int) = (k : Int) - 1 := by omega
            have hN1 : (N : Int) - 1 = (m : Int) := by omega
            have hN2 : (0 : Int) < (N : Int) := by omega
            have hm0 : (0 : Int) ≤ (m : Int) := by omega
            have hm1 : (m : Int) < (N : Int) := by omega
            have hNb : (N : Int) ≤ 1000000 := by omega
            clear hN hm hNm hq hg hlx hnil hq1 hcl
            go_wp2_with (at_builtin; go_must (refine wpList_append_pair rfl _ _ rfl u0 w3 _ (refRows s k) rfl HO3.out HB3.out k k rfl rfl HLEN.out ?_; intro v4 w4 ho4 hb4; have HO4 : Hid (OwnsP w4 u0.heap.size v4 (refRows s (k + 1))) := (by rw [HR.out]; exact ho4); have HB4 : Hid (Below u0.heap.size u0 w4) := hb4; have HX4 : Hid (SB w4 w.heap.size s) := keep_sb0 HX0.out hb4 HZ0.out; clear ho4 hb4))
            go_roundw
            case rel => exact ⟨k + 1, by omega, by go_num, HX4, HO4, HB4⟩
            case measure => simp [intOf]; omega
    · have HK : Hid (k = 256) := by show k = 256; omega
      go_wp2
      exact bodyPost_ret (v := u3) (by simp [results, Try.results17, go_sem]) rfl ⟨_, rfl, by rw [← HK.out]; exact ownsP_lower ho.out HW0.out.size, below_trans HW0.out hb.out HW0.out.size⟩
end Go.Proofs.Ytkgpmaclaahmbaa
