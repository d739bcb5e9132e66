/- Two patterns put together: their trees put together. -/
import Derived.Test.YtlcnmfgmgiijpaaG37
namespace Go.Proofs.Ytlcnmfgmgiijpaa

theorem alt_more {s : ByteArray} {n d i : Nat} (h : alt s n d i ≠ .out) : ∀ k, alt s (n + k) d i = alt s n d i := by
  intro k
  induction k with
  | zero => rfl
  | succ k ih => rw [← ih, show n + (k + 1) = (n + k) + 1 from rfl]; exact (read_more s (n + k)).2.2.1 d i (by rw [ih]; exact h)
theorem alt_ge {s : ByteArray} {n m d i j : Nat} {t : Tr} (h : alt s n d i = .ok t j) (hm : n ≤ m) : alt s m d i = .ok t j := by
  obtain ⟨k, rfl⟩ : ∃ k, m = n + k := ⟨m - n, by omega⟩
  rw [alt_more (by rw [h]; simp) k, h]
theorem piece_group {S : ByteArray} {n d o j : Nat} {t : Tr} (h40 : byt S o = 40) (hg : group S n d o = .ok t j) : piece S (n + 2) d o = repeated S t j := by
  rw [piece, if_neg (by omega), if_neg (by omega), atom, if_neg (by rw [h40]; decide), if_pos h40, hg]
theorem pat_alt {S : ByteArray} {n : Nat} {t : Tr} (h : altLoop S n 0 [] 0 = .ok t S.size) : pat S (n + 2) 0 0 = .ok t S.size := by
  rw [pat, alt, h]
  simp only
  rw [patLoop, if_neg (by simp [sees])]
  rfl
theorem alt_end {S : ByteArray} {n : Nat} (acc : List Tr) : altLoop S (n + 1) 0 acc S.size = .ok (together 3 acc) S.size := by
  rw [altLoop, if_neg (by simp)]
theorem alt_step {S : ByteArray} {n i j : Nat} {acc : List Tr} {t : Tr} (h40 : byt S i = 40) (hi : i < S.size) (hp : piece S n 0 i = .ok t j) : altLoop S (n + 1) 0 acc i = altLoop S n 0 (acc ++ [t]) j := by
  have hgo : (decide (i < S.size) && !(sees S i 124) && !(sees S i 41)) = true := by simp [sees, h40, hi]
  rw [altLoop, if_pos hgo, hp]
theorem rep_no {S : ByteArray} {t : Tr} {i : Nat} (h : S.size ≤ i ∨ byt S i = 40) : repeated S t i = .ok t i := by
  have hs : ∀ b, b ≠ 40 → sees S i b = false := fun b hb => by
    unfold sees
    rcases h with h | h
    · simp; omega
    · simp [h]; omega
  unfold repeated
  rw [hs 42 (by omega), hs 43 (by omega), hs 63 (by omega), hs 123 (by omega)]
  rfl
/-- both with '|' between them -/
theorem join_bar {p q : ByteArray} {t u : Tr} {a b : Nat} (hp : ∀ s', Stops p s' → Deep (fun d' => alt s' (8 * p.size + 7) d' 0) t p.size a) (hq : ∀ s', Stops q s' → Deep (fun d' => alt s' (8 * q.size + 7) d' 0) u q.size b) (ha : a ≤ 64) (hb : b ≤ 64) :
    patOf (p ++ ⟨#[124]⟩ ++ q) = .ok (.mk 4 Oct.none [t, u] 0 0) (p ++ ⟨#[124]⟩ ++ q).size := by
  obtain ⟨S, hS⟩ : ∃ S, S = (p ++ ⟨#[124]⟩ ++ q : ByteArray) := ⟨_, rfl⟩
  rw [← hS]
  have hS2 : S = p ++ (⟨#[124]⟩ ++ q) := by rw [hS, ByteArray.append_assoc]
  have hz : S.size = p.size + 1 + q.size := by rw [hS, ByteArray.size_append, ByteArray.size_append, size_one]
  have h1 : alt S (8 * p.size + 7) 0 0 = .ok t p.size := (hp S (by rw [hS2]; exact stops_app p q 124 (Or.inr rfl))).1 0 (by omega)
  have h2 : alt q (8 * q.size + 7) 0 0 = .ok u q.size := (hq q (stops_self q)).1 0 (by omega)
  have hsh : Sh q S (p.size + 1) := by
    have := sh_app (p ++ ⟨#[124]⟩) q
    rw [ByteArray.size_append, size_one, ← hS] at this
    exact this
  have h3 := (read_shift hsh (8 * q.size + 7)).2.2.1 0 0
  rw [h2, Nat.zero_add] at h3
  simp only [Rs.sh] at h3
  have h124 : sees S p.size 124 = true := by
    unfold sees
    rw [hS2, byt_app, if_neg (by omega), Nat.sub_self, byt_app, if_pos (by rw [size_one]; omega), byt_one, if_pos rfl, ← hS2]
    simp
    omega
  unfold patOf
  obtain ⟨M, hM⟩ : ∃ M, 8 * S.size + 8 = M + 1 + 2 := ⟨8 * S.size + 5, by omega⟩
  rw [hM, pat, alt_ge h1 (by omega)]
  simp only
  rw [patLoop, if_pos h124, alt_ge h3 (by omega)]
  simp only
  rw [patLoop, if_neg (by unfold sees; simp; omega)]
  rw [show q.size + (p.size + 1) = S.size by omega]
  rfl
/-- both in brackets, one behind the other -/
theorem join_row {p q : ByteArray} {t u : Tr} {a b : Nat} (hp : ∀ s', Stops p s' → sees s' p.size 124 = false → Deep (fun d' => pat s' (8 * p.size + 8) d' 0) t p.size a) (hq : ∀ s', Stops q s' → sees s' q.size 124 = false → Deep (fun d' => pat s' (8 * q.size + 8) d' 0) u q.size b) (ha : a ≤ 63) (hb : b ≤ 63) :
    patOf (⟨#[40]⟩ ++ p ++ ⟨#[41, 40]⟩ ++ q ++ ⟨#[41]⟩) = .ok (.mk 3 Oct.none [t, u] 0 0) (⟨#[40]⟩ ++ p ++ ⟨#[41, 40]⟩ ++ q ++ ⟨#[41]⟩ : ByteArray).size := by
  obtain ⟨S, hS⟩ : ∃ S, S = (⟨#[40]⟩ ++ p ++ ⟨#[41, 40]⟩ ++ q ++ ⟨#[41]⟩ : ByteArray) := ⟨_, rfl⟩
  rw [← hS]
  have e2 : (⟨#[41, 40]⟩ : ByteArray) = ⟨#[41]⟩ ++ ⟨#[40]⟩ := rfl
  have hS1 : S = ⟨#[40]⟩ ++ (p ++ (⟨#[41]⟩ ++ (⟨#[40]⟩ ++ (q ++ ⟨#[41]⟩)))) := by rw [hS, e2]; simp only [ByteArray.append_assoc]
  have hS2 : S = (⟨#[40]⟩ ++ p ++ ⟨#[41, 40]⟩) ++ (q ++ (⟨#[41]⟩ ++ ByteArray.empty)) := by rw [hS, ByteArray.append_empty, ByteArray.append_assoc]
  have hz : S.size = p.size + q.size + 4 := by
    rw [hS1]
    simp only [ByteArray.size_append, size_one]
    omega
  have s1 : Sh (p ++ (⟨#[41]⟩ ++ (⟨#[40]⟩ ++ (q ++ ⟨#[41]⟩)))) S (0 + 1) := by rw [hS1]; exact sh_app _ _
  have s2 : Sh (q ++ (⟨#[41]⟩ ++ ByteArray.empty)) S (p.size + 2 + 1) := by
    have := sh_app (⟨#[40]⟩ ++ p ++ ⟨#[41, 40]⟩) (q ++ (⟨#[41]⟩ ++ ByteArray.empty))
    rw [← hS2, ByteArray.size_append, ByteArray.size_append, size_one, show (⟨#[41, 40]⟩ : ByteArray).size = 2 from rfl, show 1 + p.size + 2 = p.size + 2 + 1 by omega] at this
    exact this
  have b0 : byt S 0 = 40 := by rw [hS1, byt_app, if_pos (by rw [size_one]; omega), byt_one, if_pos rfl]; rfl
  have b1 : byt S (p.size + 2) = 40 := by
    rw [hS2, byt_app, if_pos (by rw [ByteArray.size_append, ByteArray.size_append, size_one, show (⟨#[41, 40]⟩ : ByteArray).size = 2 from rfl]; omega), byt_app, if_neg (by rw [ByteArray.size_append, size_one]; omega), ByteArray.size_append, size_one, show p.size + 2 - (1 + p.size) = 1 by omega]
    rfl
  have g1 := (group_in hp s1 (8 * S.size + 2) 0 (by omega) (by omega)).1 (by omega)
  have g2 := (group_in hq s2 (8 * S.size + 1) 0 (by omega) (by omega)).1 (by omega)
  have q1 := piece_group b0 g1
  have q2 := piece_group b1 g2
  rw [show 0 + p.size + 2 = p.size + 2 by omega, rep_no (Or.inr b1)] at q1
  rw [show p.size + 2 + q.size + 2 = S.size by omega, rep_no (Or.inl (Nat.le_refl _))] at q2
  unfold patOf
  rw [show 8 * S.size + 8 = (8 * S.size + 6) + 2 by omega]
  apply pat_alt
  rw [show 8 * S.size + 6 = (8 * S.size + 2 + 1 + 2) + 1 by omega, alt_step b0 (by omega) q1, show 8 * S.size + 2 + 1 + 2 = (8 * S.size + 1 + 1 + 2) + 1 by omega, alt_step b1 (by omega) q2, show 8 * S.size + 1 + 1 + 2 = (8 * S.size + 3) + 1 by omega, alt_end]
  rfl
/-! ### a repeat, written out -/
def digs (n : Nat) : List UInt8 := if n < 10 then [UInt8.ofNat (48 + n)] else if n < 100 then [UInt8.ofNat (48 + n / 10), UInt8.ofNat (48 + n % 10)] else [UInt8.ofNat (48 + n / 100), UInt8.ofNat (48 + n / 10 % 10), UInt8.ofNat (48 + n % 10)]
def repB (n : Nat) : ByteArray := ⟨(123 :: (digs n ++ [44, 125])).toArray⟩
def repOk (n : Nat) : Bool := match counts (repB n) 0 with
  | .ok (l, m) j => decide (l = (n : Int)) && decide (m = -1) && decide (j + 1 = (repB n).size)
  | _ => false
theorem rep_all : (List.range 256).all repOk = true := by kernel_rfl
theorem rep_counts {n : Nat} (h : n ≤ 255) : counts (repB n) 0 = .ok ((n : Int), -1) ((repB n).size - 1) := by
  have h1 := List.all_eq_true.1 rep_all n (List.mem_range.2 (by omega))
  unfold repOk at h1
  split at h1
  · rename_i l m j hc
    simp at h1
    obtain ⟨⟨rfl, rfl⟩, h2⟩ := h1
    rw [hc, show (repB n).size - 1 = j by omega]
  · cases h1
theorem rep_read {n : Nat} (h : n ≤ 255) (t : Tr) : repeated (repB n) t 0 = .ok (times t n (-1)) (repB n).size := by
  have hz : 0 < (repB n).size := by unfold repB; simp [ByteArray.size]
  have b0 : byt (repB n) 0 = 123 := by rw [byt_list]; rfl
  unfold repeated sees
  simp only [b0, hz]
  rw [rep_counts h]
  simp
  omega
theorem rep_text (n : Nat) : (⟨#[123]⟩ ++ (decTo n ⟨#[]⟩ ++ ⟨#[44, 125]⟩) : ByteArray) = repB n := by
  have key : ∀ a b : ByteArray, a.data.toList = b.data.toList → a = b := fun a b h => by
    cases a; cases b
    simp at h
    rw [h]
  apply key
  unfold repB decTo digs one8
  simp only [ByteArray.data_append, Array.toList_append]
  split
  · simp [ByteArray.data_append]
  · split
    · simp [ByteArray.data_append]
    · simp [ByteArray.data_append]
theorem join_times {p : ByteArray} {t : Tr} {a n : Nat} (hp : ∀ s', Stops p s' → sees s' p.size 124 = false → Deep (fun d' => pat s' (8 * p.size + 8) d' 0) t p.size a) (ha : a ≤ 63) (hn : n ≤ 255) :
    patOf (⟨#[40]⟩ ++ p ++ ⟨#[41, 123]⟩ ++ decTo n ⟨#[]⟩ ++ ⟨#[44, 125]⟩) = .ok (times t n (-1)) (⟨#[40]⟩ ++ p ++ ⟨#[41, 123]⟩ ++ decTo n ⟨#[]⟩ ++ ⟨#[44, 125]⟩ : ByteArray).size := by
  obtain ⟨S, hS⟩ : ∃ S, S = (⟨#[40]⟩ ++ p ++ ⟨#[41, 123]⟩ ++ decTo n ⟨#[]⟩ ++ ⟨#[44, 125]⟩ : ByteArray) := ⟨_, rfl⟩
  rw [← hS]
  have e2 : (⟨#[41, 123]⟩ : ByteArray) = ⟨#[41]⟩ ++ ⟨#[123]⟩ := rfl
  have hS1 : S = ⟨#[40]⟩ ++ (p ++ (⟨#[41]⟩ ++ repB n)) := by rw [hS, e2, ← rep_text]; simp only [ByteArray.append_assoc]
  have hS2 : S = (⟨#[40]⟩ ++ p ++ ⟨#[41]⟩) ++ repB n := by rw [hS1]; simp only [ByteArray.append_assoc]
  have hz : S.size = p.size + 2 + (repB n).size := by
    rw [hS1]
    simp only [ByteArray.size_append, size_one]
    omega
  have s1 : Sh (p ++ (⟨#[41]⟩ ++ repB n)) S (0 + 1) := by rw [hS1]; exact sh_app _ _
  have s2 : Sh (repB n) S (p.size + 2) := by
    have := sh_app (⟨#[40]⟩ ++ p ++ ⟨#[41]⟩) (repB n)
    rw [← hS2, ByteArray.size_append, ByteArray.size_append, size_one, size_one, show 1 + p.size + 1 = p.size + 2 by omega] at this
    exact this
  have b0 : byt S 0 = 40 := by rw [hS1, byt_app, if_pos (by rw [size_one]; omega), byt_one, if_pos rfl]; rfl
  have g1 := (group_in hp s1 (8 * S.size + 2) 0 (by omega) (by omega)).1 (by omega)
  have q1 := piece_group b0 g1
  have r := s2.repeated t 0
  rw [rep_read hn, Nat.zero_add] at r
  simp only [Rs.sh] at r
  rw [show 0 + p.size + 2 = p.size + 2 by omega, r, show (repB n).size + (p.size + 2) = S.size by omega] at q1
  unfold patOf
  rw [show 8 * S.size + 8 = (8 * S.size + 6) + 2 by omega]
  apply pat_alt
  rw [show 8 * S.size + 6 = (8 * S.size + 2 + 1 + 2) + 1 by omega, alt_step b0 (by omega) q1, show 8 * S.size + 2 + 1 + 2 = (8 * S.size + 4) + 1 by omega, alt_end]
  rfl
end Go.Proofs.Ytlcnmfgmgiijpaa
