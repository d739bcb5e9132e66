/- heronlaw17: stands. -/
import Derived.Test.YtpikepifhnkmkaaG49
import Derived.Test.YtpikepifhnkmkaaG43
namespace Go.Proofs.Ytpikepifhnkmkaa
open Go.RowKit Go.Maps Sf Ln Fo
attribute [local go_sem ↓] Go.wp_at_zero Go.wp_at_succ

/-- a line stands on a disk -/
structure StandsD (d : Dk) (m : Mrk) (t : List UInt8) : Prop where
  x : ∃ x, d.ino m.n.toNat = some x ∧ (x.gen : Int) = m.g ∧ (x.bs.drop m.o.toNat).take (t.length + 1) = t ++ [10] ∧ (m.o = 0 ∨ (x.bs.drop (m.o - 1).toNat).take 1 = [10])
  no : ∀ c ∈ t, c ≠ 10
  len : t.length ≤ 4096
  i : m.In
theorem toList_of (l : List UInt8) : (⟨l.toArray⟩ : ByteArray).data.toList = l := rfl
theorem cat_nl (t : List UInt8) : (⟨t.toArray⟩ : ByteArray) ++ ⟨#[10]⟩ = ⟨(t ++ [10]).toArray⟩ := by
  apply ByteArray.ext
  show _ = (t ++ [10]).toArray
  rw [ByteArray.data_append]
  simp
theorem read_at {P : Nat → Prop} {w : World} {Bd K : Nat} {d : Dk} (h : Dsk P w Bd d K) {m : Mrk} (hm : m.In) {x : Ino} (hx : d.ino m.n.toNat = some x) (hg : (x.gen : Int) = m.g) {o n : Nat} (ho : (o : Int) ≤ 4611686018427387904) (hn : n ≤ 5000) :
    Calls Try.prog 35 #[.pointer (some ⟨Bd, 0, none⟩), .int .i64 m.n, .int .i64 m.g, .int .i64 (o : Nat), .int .i64 (n : Nat)] w fun e w' => ∃ va vc, e = .returned (.tuple #[.slice va ((x.bs.drop o).take n).length vc, .int .i64 0]) ∧ LAt w' (.slice va ((x.bs.drop o).take n).length vc) (uv ((x.bs.drop o).take n)) ∧ Below w.heap.size w w' := by
  have hin : inoZ d m.n = some x := by unfold inoZ; rw [if_pos hm.n.1]; exact hx
  refine (read_any h m.n m.g (o : Nat) (n : Nat) (ofI_good hm.n) (by unfold goodI; omega) (by unfold goodI; omega)).mono ?_
  intro e w' y
  have h0 : readE d m.n m.g (o : Nat) (n : Nat) = 0 := by
    unfold readE
    rw [if_neg (by omega), hin]
    simp only
    rw [if_pos hg]
  rcases y with ⟨y, _⟩ | ⟨_, f', V, hf', _, _, rfl, hrow, hb⟩
  · exact absurd h0 y
  · rw [hin] at hf'
    cases hf'
    have hcut : Ino.cut x ((o : Nat) : Int).toNat ((n : Nat) : Int).toNat = (x.bs.drop o).take n := by unfold Ino.cut; rw [Int.toNat_natCast, Int.toNat_natCast]
    rw [hcut] at hrow
    obtain ⟨va, vc, rfl⟩ := own_form hrow
    exact ⟨va, vc, rfl, owns_lat hrow, hb⟩
set_option maxRecDepth 8000 in
set_option maxHeartbeats 4000000 in
theorem stands_fn {P : Nat → Prop} {w : World} {Bd K : Nat} {d : Dk} (h : Dsk P w Bd d K) {m : Mrk} {t : List UInt8} (hs : StandsD d m t) :
    Calls Try.prog 17 #[.pointer (some ⟨Bd, 0, none⟩), .agg #[.int .i64 m.s, .int .i64 m.n, .int .i64 m.g, .int .i64 m.o, .int .i64 m.ms, .int .i64 m.gn, .int .i64 m.ct, .int .i64 m.tl, .int .i64 m.lg, .string ⟨t.toArray⟩]] w fun e w' => e = .returned (.bool true) ∧ Below w.heap.size w w' := by
  obtain ⟨⟨x, hx, hg, htk, hprev⟩, hno, hlen, hin⟩ := hs
  obtain ⟨w1, hw1⟩ : ∃ w1, w.alloc (.cells #[.int .i64 m.s, .int .i64 m.n, .int .i64 m.g, .int .i64 m.o, .int .i64 m.ms, .int .i64 m.gn, .int .i64 m.ct, .int .i64 m.tl, .int .i64 m.lg, .string ⟨t.toArray⟩] 42) = w1 := ⟨_, rfl⟩
  obtain ⟨A, hA⟩ : ∃ A, w.heap.size = A := ⟨_, rfl⟩
  have k1 : Below w.heap.size w w1 := by rw [← hw1]; exact (Below.refl _ _).alloc (Nat.le_refl _) _
  have h1 : w1.heap[A]? = some (.cells #[.int .i64 m.s, .int .i64 m.n, .int .i64 m.g, .int .i64 m.o, .int .i64 m.ms, .int .i64 m.gn, .int .i64 m.ct, .int .i64 m.tl, .int .i64 m.lg, .string ⟨t.toArray⟩] 42 (0, 0)) := by rw [← hw1, ← hA]; exact heap_alloc_new w _
  have HW : Hid (w.alloc (.cells #[.int .i64 m.s, .int .i64 m.n, .int .i64 m.g, .int .i64 m.o, .int .i64 m.ms, .int .i64 m.gn, .int .i64 m.ct, .int .i64 m.tl, .int .i64 m.lg, .string ⟨t.toArray⟩] 42) = w1 ∧ w.heap.size = A) := ⟨hw1, hA⟩
  obtain ⟨tx, htx⟩ : ∃ tx : ByteArray, ⟨t.toArray⟩ = tx := ⟨_, rfl⟩
  obtain ⟨n, hn⟩ : ∃ n, t.length = n := ⟨_, rfl⟩
  obtain ⟨o, ho⟩ : ∃ o : Nat, m.o = (o : Nat) := Int.eq_ofNat_of_zero_le hin.o.1
  have hol : (o : Int) ≤ 4611686018427387904 := by have := hin.o.2; unfold top at this; omega
  have hsz : tx.size = n := by rw [← htx, ← hn]; show t.toArray.size = _; simp
  have hd1 := h.later k1
  have hn4 : n ≤ 4096 := by omega
  have HR1 : Hid (Calls Try.prog 35 #[.pointer (some ⟨Bd, 0, none⟩), .int .i64 m.n, .int .i64 m.g, .int .i64 (o : Nat), .int .i64 ((n : Int) + 1)] w1 fun e w' => ∃ va vc, e = .returned (.tuple #[.slice va (n + 1) vc, .int .i64 0]) ∧ LAt w' (.slice va (n + 1) vc) (uv (t ++ [10])) ∧ Below w1.heap.size w1 w') := by
    have := read_at hd1 hin hx hg (o := o) (n := n + 1) hol (by omega)
    rw [ho, Int.toNat_natCast, hn] at htk
    rw [htk] at this
    simp only [List.length_append, List.length_cons, List.length_nil, hn] at this
    exact this
  have HR2 : Hid (m.o ≠ 0 → ∀ u, Below w1.heap.size w1 u → Calls Try.prog 35 #[.pointer (some ⟨Bd, 0, none⟩), .int .i64 m.n, .int .i64 m.g, .int .i64 ((o : Int) - 1), .int .i64 1] u fun e w' => ∃ va vc, e = .returned (.tuple #[.slice va 1 vc, .int .i64 0]) ∧ LAt w' (.slice va 1 vc) (uv [10]) ∧ Below u.heap.size u w') := fun hne u hu => by
    rcases hprev with hp | hp
    · exact absurd hp hne
    · have h3 : (m.o - 1).toNat = o - 1 := by omega
      rw [h3] at hp
      have := read_at (hd1.later hu) hin hx hg (o := o - 1) (n := 1) (by omega) (by omega)
      rw [hp] at this
      have e : ((o - 1 : Nat) : Int) = (o : Int) - 1 := by omega
      rw [e] at this
      exact this
  have HCV : Hid (∀ (u : World) (va : Option Addr) (vc : Nat), LAt u (.slice va (n + 1) vc) (uv (t ++ [10])) → (convert 46 9 (.slice va (n + 1) vc)).run Try.prog u = .ok (.string (tx ++ ⟨#[10]⟩)) u) := fun u va vc hl => by
    rw [← htx, cat_nl]
    exact conv_uv hl
  have HBY : Hid (∀ j, j < n → ∃ c : UInt8, tx.data[j]? = some c ∧ c ≠ 10) := fun j hj => by
    have hj2 : j < t.length := by omega
    refine ⟨t[j], ?_, hno _ (List.getElem_mem hj2)⟩
    rw [← htx]
    simp [hj2]
  rw [htx] at h1 HW ⊢
  rw [ho] at h1 HW HR2 ⊢
  have HK : Hid (Below w.heap.size w w1 ∧ w1.heap[A]? = some (.cells #[.int .i64 m.s, .int .i64 m.n, .int .i64 m.g, .int .i64 (o : Nat), .int .i64 m.ms, .int .i64 m.gn, .int .i64 m.ct, .int .i64 m.tl, .int .i64 m.lg, .string tx] 42 (0, 0))) := ⟨k1, h1⟩
  have HCL : Hid (∀ u, Below w1.heap.size w1 u → u.cell? ⟨A, 1, none⟩ = some (.int .i64 m.n) ∧ u.cell? ⟨A, 2, none⟩ = some (.int .i64 m.g) ∧ u.cell? ⟨A, 3, none⟩ = some (.int .i64 (o : Nat)) ∧ u.cell? ⟨A, 9, none⟩ = some (.string tx)) := fun u hu => by
    have h2 := (hu.block A (Array.getElem?_eq_some_iff.1 h1).1).trans h1
    simp [World.cell?, h2]
  have hmx : tx.size ≤ 9223372036854775806 := by omega
  obtain ⟨a1, a2, a3, a9⟩ := HCL.out w1 (Below.refl _ _)
  clear h hx hg htk hprev hno hlen hin hw1 hA k1 h1 htx hn ho hd1
  go_enter Try.func17, Try.ntmps17
  go_upto_region 1 with fail
  rw [HW.out.1, HW.out.2]
  clear HW
  go_wp2_with fail
  refine HR1.out.mono ?_
  rintro e w2 ⟨va, vc, rfl, hl2, k2⟩
  have hcv := HCV.out w2 va vc hl2
  have HK2 : Hid (Below w1.heap.size w1 w2) := k2
  obtain ⟨b1, b2, b3, b9⟩ := HCL.out w2 k2
  clear hl2 k2 HR1 HCV a1 a2 a3 a9
  go_wp2_with fail
  go_loop [7] (fun i => ∃ k : Nat, k ≤ n ∧ i = .int .i64 (k : Nat)) (fun i => n - (intOf i).toNat)
  case atStart => exact ⟨0, Nat.zero_le _, rfl⟩
  case round =>
    obtain ⟨k, hk, rfl⟩ := hrel
    by_cases hlt : k < n
    · obtain ⟨c, hc, hc10⟩ := HBY.out k hlt
      have hks : k < tx.size := by omega
      have hcx : tx[k] = c := by
        have h2 : tx.data[k]? = some tx.data[k] := Array.getElem?_eq_getElem hks
        rw [hc] at h2
        exact (Option.some.inj h2).symm
      have hne : ¬ ((tx[k].toNat : Nat) : Int) = 10 := by rw [hcx]; exact u8_ten hc10
      clear hc hc10 hcx
      go_wp2
      go_round
      case rel => exact ⟨k + 1, by omega, by go_num⟩
      case measure => simp [intOf]; omega
    · obtain rfl : k = n := by omega
      by_cases ho : (o : Int) = 0
      · have e0 : ((o : Int) == 0) = true := by simp; omega
        have HE : Hid (Below w.heap.size w w2) := below_step HK.out.1 HK2.out
        clear ho
        go_wp2
        go_ret
        exact ⟨rfl, HE.out⟩
      · have e0 : ((o : Int) == 0) = false := by simp; omega
        have HC : Hid (Calls Try.prog 35 #[.pointer (some ⟨Bd, 0, none⟩), .int .i64 m.n, .int .i64 m.g, .int .i64 ((o : Int) - 1), .int .i64 1] w2 _) := HR2.out ho w2 HK2.out
        clear ho
        go_wp2_with fail
        refine HC.out.mono ?_
        rintro e w3 ⟨va3, vc3, rfl, hl3, k3⟩
        have hcv3 : (convert 46 9 (.slice va3 1 vc3)).run Try.prog w3 = .ok (.string ⟨#[10]⟩) w3 := conv_uv hl3
        have HE : Hid (Below w.heap.size w w3) := below_step (below_step HK.out.1 HK2.out) k3
        clear hl3 k3 HC
        go_wp2
        go_ret
        exact ⟨rfl, HE.out⟩
end Go.Proofs.Ytpikepifhnkmkaa
