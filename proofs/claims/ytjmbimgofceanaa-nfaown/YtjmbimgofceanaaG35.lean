/- A pattern in brackets: the same tree, one deeper. -/
import Derived.Test.YtjmbimgofceanaaG34
import Derived.Test.YtjmbimgofceanaaG32
import Derived.Test.YtjmbimgofceanaaG31
import Derived.Test.YtjmbimgofceanaaG16
import Derived.Test.YtjmbimgofceanaaG21
import Derived.Test.YtjmbimgofceanaaG01
import Derived.Test.YtjmbimgofceanaaG29
import Derived.Test.YtjmbimgofceanaaG27
import Derived.Test.YtjmbimgofceanaaG18
import Derived.Test.YtjmbimgofceanaaG17
namespace Go.Proofs.Ytjmbimgofceanaa

theorem byt_app (a b : ByteArray) (i : Nat) : byt (a ++ b) i = if i < a.size then byt a i else byt b (i - a.size) := by
  have ha : a.data.toList.length = a.size := by simp
  rw [byt_list, byt_list, byt_list, ByteArray.data_append, Array.toList_append, List.getD_eq_getElem?_getD, List.getD_eq_getElem?_getD, List.getD_eq_getElem?_getD]
  by_cases h : i < a.size
  · rw [if_pos h, List.getElem?_append_left (by omega)]
  · rw [if_neg h, List.getElem?_append_right (by omega), ha]
theorem byt_one (c : UInt8) (i : Nat) : byt ⟨#[c]⟩ i = if i = 0 then c.toNat else 0 := by
  rw [byt_list]
  cases i with
  | zero => rfl
  | succ i => rw [if_neg (by omega)]; simp
theorem size_one (c : UInt8) : (⟨#[c]⟩ : ByteArray).size = 1 := rfl
theorem sh_app (a b : ByteArray) : Sh b (a ++ b) a.size := by
  refine ⟨fun i => ?_, by rw [ByteArray.size_append]; omega⟩
  rw [byt_app, if_neg (by omega), Nat.add_sub_cancel]
theorem stops_app (p b : ByteArray) (c : UInt8) (hc : c = 41 ∨ c = 124) : Stops p (p ++ (⟨#[c]⟩ ++ b)) := by
  refine ⟨⟨fun i hi => ?_, Nat.le_refl _, ?_⟩, Or.inr ?_⟩
  · rw [byt_app, if_pos hi]
  · rw [ByteArray.size_append]; omega
  · rw [byt_app, if_neg (by omega), Nat.sub_self, byt_app, if_pos (by rw [size_one]; omega), byt_one, if_pos rfl]
    rcases hc with rfl | rfl
    · exact Or.inl rfl
    · exact Or.inr rfl
theorem stops_self (p : ByteArray) : Stops p p := ⟨⟨fun _ _ => rfl, Nat.le_refl _, Nat.le_refl _⟩, Or.inl rfl⟩
theorem sk_bars {p : ByteArray} {q b : Nat} (h : Sk p 0 p.size q b) : skim p p.size ⟨0, 0, 0, 0⟩ = ⟨p.size, 0, q, b⟩ := by
  have h1 := (h 0 0 0 (by omega) (by omega)).ends (Nat.le_refl _) p.size (by simp)
  rw [h1]
  congr 1
  · omega
  · simp
/-- what a pattern that is read tells: how deep, how many '|' -/
theorem read_bars {p : ByteArray} {t : Tr} (hp : patOf p = .ok t p.size) : ∃ q b : Nat, skim p p.size ⟨0, 0, 0, 0⟩ = ⟨p.size, 0, q, b⟩ ∧ (b = 0 → alt p (8 * p.size + 7) 0 0 = .ok t p.size) ∧ q ≤ 64 ∧ (∀ s', Stops p s' → sees s' p.size 124 = false → Deep (fun d' => pat s' (8 * p.size + 8) d' 0) t p.size q) ∧ (b = 0 → ∀ s', Stops p s' → Deep (fun d' => alt s' (8 * p.size + 7) d' 0) t p.size q) := by
  obtain ⟨q, b, s1, s2, s3⟩ := (read_rise (stops_self p) (8 * p.size + 8)).1 0 0 t p.size hp (Nat.zero_le _)
  have hk := sk_bars s1
  have hq : q ≤ 64 := by
    have h1 := (s3 (Or.inr (by simp [sees]))).2 0 (by omega)
    by_cases e : q ≤ 64
    · exact e
    · obtain ⟨a, ha⟩ := h1 (by omega)
      have h2 : patOf p = .bad a 47 := ha
      rw [hp] at h2
      cases h2
  refine ⟨q, b, hk, s2, hq, fun s' hs hb => ?_, fun hb s' hs => ?_⟩
  · obtain ⟨q', b', t1, _, t3⟩ := (read_rise hs (8 * p.size + 8)).1 0 0 t p.size hp (Nat.zero_le _)
    have hk' := sk_bars t1
    rw [hk] at hk'
    have e : q = q' := by injection hk' with _ _ h3 _; omega
    rw [e]
    exact t3 (Or.inr hb)
  · obtain ⟨q', t1, t3⟩ := (read_rise hs (8 * p.size + 7)).2.2.1 0 0 t p.size (s2 hb) (Nat.zero_le _)
    have hk' := sk_bars t1
    rw [hk] at hk'
    have e : q = q' := by injection hk' with _ _ h3 _; omega
    rw [e]
    exact t3
/-- a group that holds it -/
theorem group_in {p B S : ByteArray} {o q : Nat} {t : Tr} (hD : ∀ s', Stops p s' → sees s' p.size 124 = false → Deep (fun d' => pat s' (8 * p.size + 8) d' 0) t p.size q) (hS : Sh (p ++ (⟨#[41]⟩ ++ B)) S (o + 1)) (n d : Nat) (hn : 8 * p.size + 8 ≤ n) (hd : d ≤ 63) :
    (d + 1 + q ≤ 64 → group S (n + 1) d o = .ok t (o + p.size + 2)) ∧ (64 < d + 1 + q → ∃ a, group S (n + 1) d o = .bad a 47) := by
  have hst := stops_app p B 41 (Or.inl rfl)
  have hb : byt (p ++ (⟨#[41]⟩ ++ B)) p.size = 41 := by
    rw [byt_app, if_neg (by omega), Nat.sub_self, byt_app, if_pos (by rw [size_one]; omega), byt_one, if_pos rfl]; rfl
  obtain ⟨a1, a2⟩ := hD _ hst (by unfold sees; simp [hb])
  have hsz : (p ++ (⟨#[41]⟩ ++ B)).size = p.size + 1 + B.size := by rw [ByteArray.size_append, ByteArray.size_append, size_one]; omega
  have hz := hS.z
  obtain ⟨k, rfl⟩ : ∃ k, n = 8 * p.size + 8 + k := ⟨n - (8 * p.size + 8), by omega⟩
  have hm : ∀ d', pat S (8 * p.size + 8) d' (o + 1) = .out ∨ pat S (8 * p.size + 8 + k) d' (o + 1) = pat S (8 * p.size + 8) d' (o + 1) := fun d' => by
    by_cases e : pat S (8 * p.size + 8) d' (o + 1) = .out
    · exact Or.inl e
    · exact Or.inr (pat_more e k)
  have hsh := (read_shift hS (8 * p.size + 8)).1 (d + 1) 0
  rw [Nat.zero_add] at hsh
  refine ⟨fun hq => ?_, fun hq => ?_⟩
  · have e1 := a1 (d + 1) hq
    simp only at e1
    rw [e1] at hsh
    rw [group, if_neg (by omega)]
    rcases hm (d + 1) with e | e
    · rw [hsh] at e; cases e
    · rw [e, hsh]
      simp only [Rs.sh]
      rw [if_neg (by omega)]
      congr 1
      omega
  · obtain ⟨a, e1⟩ := a2 (d + 1) (by omega) hq
    simp only at e1
    rw [e1] at hsh
    rw [group, if_neg (by omega)]
    rcases hm (d + 1) with e | e
    · rw [hsh] at e; cases e
    · rw [e, hsh]
      exact ⟨_, rfl⟩
/-! ### faults' numbers -/
def Code (e : Nat) : Prop := (40 ≤ e ∧ e ≤ 48) ∨ e = 30
/-! ### what Parse tells -/
theorem parse_ok {p : ByteArray} {t : Tr} {j : Nat} (h : parseOf p = .ok t j) : p.size ≤ 1024 ∧ (∀ i, byt p i ≠ 10) ∧ patOf p = .ok t p.size ∧ placesOf (up t) ≤ 2048 ∧ Good 1025 t ∧ newlineAt p < 0 := by
  unfold parseOf at h
  split at h
  · cases h
  · split at h
    · cases h
    · rename_i h1 h2
      have hnl := no_newline h2
      unfold wholeOf at h
      split at h
      · rename_i t' j' hc
        split at h
        · rename_i hj
          split at h
          · cases h
          · cases h
            subst hj
            exact ⟨by omega, hnl, hc, by omega, ((read_good p hnl _).1 _ _ _ _ hc).mono (by omega), by omega⟩
        · cases h
      · cases h
      · cases h
/-- a pattern without a newline, parsed by its reading -/
theorem newline_none {p : ByteArray} (h : ∀ i, byt p i ≠ 10) : newlineAt p < 0 := by
  by_cases e : newlineAt p < 0
  · exact e
  · exfalso
    obtain ⟨o, ho⟩ : ∃ o : Nat, Go.Lib.indexByte p.data.toList 10 = o := ⟨(newlineAt p).toNat, by unfold newlineAt at e ⊢; omega⟩
    have h1 := (Go.Lib.indexByte_some ho).1
    have h2 := h o
    rw [byt_list, List.getD_eq_getElem?_getD, h1] at h2
    exact h2 rfl
theorem parse_of {p : ByteArray} (hs : p.size ≤ 1024) (hn : ∀ i, byt p i ≠ 10) : parseOf p = wholeOf p := by
  unfold parseOf
  rw [if_neg (by omega), if_neg (by have := newline_none hn; omega)]
theorem whole_ok {p : ByteArray} {t : Tr} (h : patOf p = .ok t p.size) : wholeOf p = if 2048 < placesOf (up t) then .bad 0 48 else .ok t p.size := by
  unfold wholeOf
  rw [h]
  simp
theorem whole_bad {p : ByteArray} {a e : Nat} (h : patOf p = .bad a e) : wholeOf p = .bad a e := by
  unfold wholeOf
  rw [h]
/-- a pattern that is one group -/
theorem pat_group {S : ByteArray} {n : Nat} (h40 : byt S 0 = 40) (hz : 0 < S.size) : (∀ t, group S n 0 0 = .ok t S.size → pat S (n + 6) 0 0 = .ok t S.size) ∧ (∀ a e, group S n 0 0 = .bad a e → pat S (n + 6) 0 0 = .bad a e) := by
  have hgo : (decide (0 < S.size) && !(sees S 0 124) && !(sees S 0 41)) = true := by simp [sees, h40, hz]
  have hend : ∀ b, sees S S.size b = false := fun b => by simp [sees]
  have hp : ∀ r, group S n 0 0 = r → piece S (n + 2) 0 0 = (match r with
    | .ok t j => repeated S t j
    | .bad a e => .bad a e
    | .out => .out) := fun r hr => by
    rw [piece, if_neg (by omega), if_neg (by omega), atom, if_neg (by rw [h40]; decide), if_pos h40, hr]
    cases r <;> rfl
  refine ⟨fun t hg => ?_, fun a e hg => ?_⟩
  · have h1 := hp _ hg
    have h2 : repeated S t S.size = .ok t S.size := by
      unfold repeated
      simp [hend]
    simp only at h1
    rw [h2] at h1
    have hm := ((read_more S (n + 2)).2.2.2.2.1 0 0 (by rw [h1]; simp)).trans h1
    rw [pat, alt, altLoop, if_pos hgo, hm]
    simp only
    rw [altLoop, if_neg (by simp)]
    simp only
    rw [patLoop, if_neg (by rw [hend]; simp)]
    rfl
  · have h1 := hp _ hg
    simp only at h1
    have hm := ((read_more S (n + 2)).2.2.2.2.1 0 0 (by rw [h1]; simp)).trans h1
    rw [pat, alt, altLoop, if_pos hgo, hm]
theorem brackets {p : ByteArray} {t : Tr} {j : Nat} (h : parseOf p = .ok t j) (hs : p.size ≤ 1022) : ∃ q b : Nat, skim p p.size ⟨0, 0, 0, 0⟩ = ⟨p.size, 0, q, b⟩ ∧ (q ≤ 63 → parseOf (⟨#[40]⟩ ++ p ++ ⟨#[41]⟩) = .ok t (p.size + 2)) ∧ (64 ≤ q → ∃ a, parseOf (⟨#[40]⟩ ++ p ++ ⟨#[41]⟩) = .bad a 47) := by
  obtain ⟨h1, hnl, hpat, hpl, hg, hn0⟩ := parse_ok h
  obtain ⟨q, b, hk, _, hq, hD, _⟩ := read_bars hpat
  obtain ⟨S, hS⟩ : ∃ S, S = (⟨#[40]⟩ ++ p ++ ⟨#[41]⟩ : ByteArray) := ⟨_, rfl⟩
  have hS2 : S = ⟨#[40]⟩ ++ (p ++ (⟨#[41]⟩ ++ ByteArray.empty)) := by rw [hS, ByteArray.append_empty, ByteArray.append_assoc]
  have hsh : Sh (p ++ (⟨#[41]⟩ ++ ByteArray.empty)) S (0 + 1) := by rw [hS2]; exact sh_app _ _
  have hz : S.size = p.size + 2 := by rw [hS, ByteArray.size_append, ByteArray.size_append, size_one, size_one]; omega
  have hb : ∀ i, byt S i = if i = 0 then 40 else if i < p.size + 1 then byt p (i - 1) else if i = p.size + 1 then 41 else 0 := fun i => by
    rw [hS, byt_app, byt_app, byt_one, byt_one, ByteArray.size_append, size_one]
    by_cases e : i = 0
    · subst e; simp
    · by_cases e2 : i < p.size + 1
      · rw [if_pos (by omega), if_neg (by omega), if_neg e, if_pos e2]
      · rw [if_neg (by omega), if_neg e, if_neg e2]
        by_cases e3 : i = p.size + 1
        · rw [if_pos (by omega), if_pos e3]; rfl
        · rw [if_neg (by omega), if_neg e3]
  have hSn : ∀ i, byt S i ≠ 10 := fun i => by
    rw [hb]
    split
    · decide
    · split
      · exact hnl _
      · split <;> decide
  have hG := group_in hD hsh (8 * p.size + 17) 0 (by omega) (by omega)
  have hP := pat_group (S := S) (n := 8 * p.size + 17 + 1) (by rw [hb]; rfl) (by omega)
  have hf : pat S (8 * p.size + 17 + 1 + 6) 0 0 = patOf S := by unfold patOf; rw [show 8 * S.size + 8 = 8 * p.size + 17 + 1 + 6 by omega]
  rw [← hS]
  refine ⟨q, b, hk, fun hq2 => ?_, fun hq2 => ?_⟩
  · have h2 := hP.1 t ((hG.1 (by omega)).trans (by congr 1; omega))
    rw [hf] at h2
    rw [parse_of (by omega) hSn, whole_ok h2, if_neg (by omega), hz]
  · obtain ⟨a, ha⟩ := hG.2 (by omega)
    have h2 := hP.2 a 47 ha
    rw [hf] at h2
    exact ⟨a, by rw [parse_of (by omega) hSn, whole_bad h2]⟩
end Go.Proofs.Ytjmbimgofceanaa

/- ere.Parse, as the statements of layer 7 call it; the machine of what is read. -/
namespace Go.Proofs.Ytjmbimgofceanaa
open Go.RowKit

theorem NodeAt.inA {X : Nat → Prop} {w : World} {t : Tr} {x : Nd} (h : NodeAt X w t x) {N : Nat} (h1 : 1 ≤ N) (hN : N ≤ 1000000) : Good N t → InAt w (up t) x := by
  induction h with
  | mk k s subs mn mx a n c vs hn hl hr hs ih =>
    intro hg
    obtain ⟨g1, g2⟩ := hg.subs h1
    rw [up_mk]
    refine .mk k s (subs.map up) mn mx a n c vs (by simp [hn]) hl (by omega) (hr.keep (fun _ _ _ => trivial) (fun _ _ _ => rfl)) (fun i t v ht hv => ?_)
    rw [List.getElem?_map] at ht
    cases hsi : subs[i]? with
    | none => rw [hsi] at ht; cases ht
    | some u =>
      rw [hsi] at ht
      cases ht
      exact ih i u v hsi hv (g2 u (List.mem_of_getElem? hsi))
/-- what a pattern is read as: its tree and its error -/
def readT (s : ByteArray) : Tn × Nat := match parseOf s with
  | .ok t _ => (up t, 0)
  | .bad _ c => (.mk 0 Oct.none [] 0 0, c)
  | .out => (.mk 0 Oct.none [] 0 0, 0)
theorem parse_tree (s : ByteArray) (w : World) (gm : GM w) : Calls Try.prog 9 #[.string s] w fun e w' => Below w.heap.size w w' ∧ ∃ (x : Nd) (a : Int), e = .returned (.tuple #[x.val, .int .i64 a, .int .i64 ((readT s).2 : Nat)]) ∧ InAt w' (readT s).1 x := by
  refine (Parse_any s w gm).mono ?_
  intro e w' h
  unfold ParsePost at h
  obtain ⟨hb, h⟩ := h
  refine ⟨hb, ?_⟩
  unfold readT
  cases hc : parseOf s with
  | out => rw [hc] at h; exact h.elim
  | bad i c =>
    rw [hc] at h
    exact ⟨zeroNd, i, h, .mk 0 Oct.none [] 0 0 none 0 0 [] rfl rfl (by decide) (Or.inl rfl) (fun i t v h => by simp at h)⟩
  | ok t j =>
    rw [hc] at h
    obtain ⟨x, he, hx⟩ := h
    exact ⟨x, 0, he, hx.inA (N := 1025) (by decide) (by decide) (parse_ok hc).2.2.2.2.1⟩
end Go.Proofs.Ytjmbimgofceanaa

/- Unions of machines that fit: plain. -/
namespace Go.Proofs.Ytjmbimgofceanaa

theorem orFrom_lt : ∀ (bs : List Bool) (xs : List Nat) (r : Nat), r < 4294967296 → (∀ x ∈ xs, x < 4294967296) → orFrom r bs xs < 4294967296
  | [], _, r, hr, _ => by rw [orFrom]; exact hr; intros; simp_all
  | _ :: _, [], r, hr, _ => by rw [orFrom]; exact hr; intros; simp_all
  | b :: bs, x :: xs, r, hr, hx => by
    rw [orFrom]
    refine orFrom_lt bs xs _ ?_ (fun y hy => hx y (by simp [hy]))
    split
    · exact or_lt32 hr (hx x (by simp))
    · exact hr
theorem walks_lt {M : Ma} {S : Nat} {line : ByteArray} {i : Nat} {cur : List Bool} {r R : Nat} (h : Walks M S line i cur r R) (hx : ∀ x ∈ M.rs, x < 4294967296) : r < 4294967296 → R < 4294967296 := by
  induction h with
  | last i cur cl r hi hc => exact fun hr => orFrom_lt _ _ _ hr hx
  | step i cur cl r R hi hc _ ih => exact fun hr => ih (orFrom_lt _ _ _ hr hx)
/-- a machine that the law gathers -/
structure Fine (line : ByteArray) (M : Ma) (R : Nat) : Prop where
  wk : Wk line M R
  rt : rightOf M = true
  es : M.es.length ≤ 4096
  rs : M.rs.length ≤ 300
  u : ∀ r ∈ M.rs, r < 4294967296
theorem Fine.lt {line : ByteArray} {M : Ma} {R : Nat} (h : Fine line M R) : R < 4294967296 := walks_lt h.wk.w h.u (by decide)
def Fines (line : ByteArray) (Ms : List Ma) (Rs : List Nat) : Prop := Ms.length = Rs.length ∧ ∀ (i : Nat) (M : Ma) (R : Nat), Ms[i]? = some M → Rs[i]? = some R → Fine line M R
theorem Fines.snoc {line : ByteArray} {Ms : List Ma} {Rs : List Nat} (h : Fines line Ms Rs) {M : Ma} {R : Nat} (hf : Fine line M R) : Fines line (Ms ++ [M]) (Rs ++ [R]) := by
  refine ⟨by simp [h.1], fun i M' R' hM hR => ?_⟩
  by_cases hlt : i < Ms.length
  · rw [List.getElem?_append_left hlt] at hM
    rw [List.getElem?_append_left (by rw [← h.1]; exact hlt)] at hR
    exact h.2 i M' R' hM hR
  · rw [List.getElem?_append_right (by omega)] at hM
    rw [List.getElem?_append_right (by rw [← h.1]; omega), ← h.1] at hR
    have e0 : i - Ms.length = 0 := by
      have := (List.getElem?_eq_some_iff.1 hM).1
      simp at this
      omega
    rw [e0] at hM hR
    simp at hM hR
    subst hM hR
    exact hf
theorem Walks.same {M : Ma} {n : Nat} {line : ByteArray} {R R' : Nat} (h : Wk line M R) (hn : M.rs.length = n) (h2 : Walks M n line 0 (List.replicate n false) 0 R') : R' = R := by
  subst hn
  exact (Walks.unique h2 h.w)
end Go.Proofs.Ytjmbimgofceanaa

/- heronlaw07's short. -/
namespace Go.Proofs.Ytjmbimgofceanaa
open Go.RowKit
attribute [local go_sem ↓] Go.wp_at_zero Go.wp_at_succ

end Go.Proofs.Ytjmbimgofceanaa

/- heronlaw07's met. -/
namespace Go.Proofs.Ytjmbimgofceanaa
open Go.RowKit
attribute [local go_sem ↓] Go.wp_at_zero Go.wp_at_succ

end Go.Proofs.Ytjmbimgofceanaa

/- heronlaw07's known. -/
namespace Go.Proofs.Ytjmbimgofceanaa
open Go.RowKit
attribute [local go_sem ↓] Go.wp_at_zero Go.wp_at_succ

def xset : Oct.S := Oct.has [120]
def leafT : Tn := .mk 2 xset [] 0 0
def starT : Tn := .mk 5 Oct.none [leafT] 0 (-1)
def starM : Ma := ⟨4, [⟨1, 0, 1, Oct.none⟩, ⟨2, 1, 2, xset⟩, ⟨1, 2, 1, Oct.none⟩, ⟨1, 1, 3, Oct.none⟩], [0, 0, 0, 8]⟩
theorem xw0 : Oct.word xset 0 = 0 := by kernel_rfl
theorem xw1 : Oct.word xset 1 = 72057594037927936 := by kernel_rfl
theorem xw2 : Oct.word xset 2 = 0 := by kernel_rfl
theorem xw3 : Oct.word xset 3 = 0 := by kernel_rfl
theorem star_plc : (plc starT).2 = true := by kernel_rfl
theorem star_places : placesOf starT = 4 := by kernel_rfl
theorem leaf_places : placesOf leafT = 2 := by kernel_rfl
theorem star_lay : lay starT ⟨1, []⟩ 0 = (⟨4, starM.es⟩, 3) := by
  unfold starT
  rw [lay_mk]
  simp only [show ¬ ((5 : Int) = 2 ∨ (5 : Int) = 6 ∨ (5 : Int) = 7) by decide, show ¬ (5 : Int) = 3 by decide, show ¬ (5 : Int) = 4 by decide, if_false, if_true, hd, leaf_places]
  unfold timesOf
  simp only [show ¬ (2 : Nat) = 1 by decide, if_false, if_true, Int.toNat_zero, rounds]
  unfold again leafT
  simp only [lay_mk]
  simp [Mk.st, Mk.fr, Mk.ed, starM]
theorem star_build : buildOf starT 3 = (starM, 0) := by
  unfold buildOf
  rw [if_neg (by rw [star_plc]; decide), if_neg (by rw [star_places]; decide), if_neg (by decide)]
  unfold mach
  rw [star_lay]
  rfl
theorem star_union : (unionOf [starM, starM]).2 = 0 ∧ (unionOf [starM, starM]).1.S = 9 ∧ (unionOf [starM, starM]).1.es.length = 10 ∧ rightOf (unionOf [starM, starM]).1 = true := by
  refine ⟨?_, ?_, ?_, ?_⟩ <;> kernel_rfl
theorem star_bounds : (unions [starM, starM] ⟨1, [], [0]⟩).es.length ≤ 10000000 ∧ (unions [starM, starM] ⟨1, [], [0]⟩).rs.length ≤ 10000000 := by
  have h1 : (unions [starM, starM] ⟨1, [], [0]⟩).es.length = 10 := by kernel_rfl
  have h2 : (unions [starM, starM] ⟨1, [], [0]⟩).rs.length = 9 := by kernel_rfl
  omega
theorem one_right : rightOf ⟨1, [], []⟩ = false := by kernel_rfl
set_option maxRecDepth 4000 in
set_option maxHeartbeats 4000000 in
theorem byteSet_any (w : World) : Calls Try.prog 25 #[.int .u8 120] w fun e w' => e = .returned (Nd.val ⟨2, xset, none, 0, 0, 0, 0⟩) ∧ Below w.heap.size w w' := by
  go_enter Try.func25, Try.ntmps25
  go_wp2
  refine post_node Try.f25 2 (by kernel_rfl) (x := ⟨2, xset, none, 0, 0, 0, 0⟩) (R := w.heap.size) rfl rfl ?_ ⟨rfl, ((Below.refl _ _).alloc (Nat.le_refl _) _).alloc (by simp) _⟩
  unfold NB
  simp only [xw0, xw1, xw2, xw3]
  rw [heap_alloc_old _ _ (by simp)]
  exact heap_alloc_new w _
theorem num_any (k : Nat) (w : World) : Calls Try.prog 10 #[.int .i64 (k : Nat)] w fun e w' => e = .returned (.int .i64 (k : Nat)) ∧ w' = w := by
  go_enter Try.func10, Try.ntmps10
  go_wp2
  go_ret
  exact ⟨rfl, rfl⟩
theorem star_in (w1 : World) : InAt ((w1.alloc (.cells #[.int .i64 2, .int .u64 (Oct.word xset 0 : Nat), .int .u64 (Oct.word xset 1 : Nat), .int .u64 (Oct.word xset 2 : Nat), .int .u64 (Oct.word xset 3 : Nat), .slice none 0 0, .int .i64 0, .int .i64 0] 30)).alloc (.cells #[.int .i64 5, .int .u64 0, .int .u64 0, .int .u64 0, .int .u64 0, .slice (some ⟨w1.heap.size, 0, none⟩) 1 1, .int .i64 0, .int .i64 (-1)] 30)) starT ⟨5, Oct.none, some ⟨w1.heap.size, 0, none⟩, 1, 1, 0, -1⟩ := by
  have hk : Below (w1.alloc (.cells #[.int .i64 2, .int .u64 (Oct.word xset 0 : Nat), .int .u64 (Oct.word xset 1 : Nat), .int .u64 (Oct.word xset 2 : Nat), .int .u64 (Oct.word xset 3 : Nat), .slice none 0 0, .int .i64 0, .int .i64 0] 30)).heap.size (w1.alloc (.cells #[.int .i64 2, .int .u64 (Oct.word xset 0 : Nat), .int .u64 (Oct.word xset 1 : Nat), .int .u64 (Oct.word xset 2 : Nat), .int .u64 (Oct.word xset 3 : Nat), .slice none 0 0, .int .i64 0, .int .i64 0] 30)) ((w1.alloc (.cells #[.int .i64 2, .int .u64 (Oct.word xset 0 : Nat), .int .u64 (Oct.word xset 1 : Nat), .int .u64 (Oct.word xset 2 : Nat), .int .u64 (Oct.word xset 3 : Nat), .slice none 0 0, .int .i64 0, .int .i64 0] 30)).alloc (.cells #[.int .i64 5, .int .u64 0, .int .u64 0, .int .u64 0, .int .u64 0, .slice (some ⟨w1.heap.size, 0, none⟩) 1 1, .int .i64 0, .int .i64 (-1)] 30)) := (Below.refl _ _).alloc (Nat.le_refl _) _
  have hg : ((w1.alloc (.cells #[.int .i64 2, .int .u64 (Oct.word xset 0 : Nat), .int .u64 (Oct.word xset 1 : Nat), .int .u64 (Oct.word xset 2 : Nat), .int .u64 (Oct.word xset 3 : Nat), .slice none 0 0, .int .i64 0, .int .i64 0] 30)).alloc (.cells #[.int .i64 5, .int .u64 0, .int .u64 0, .int .u64 0, .int .u64 0, .slice (some ⟨w1.heap.size, 0, none⟩) 1 1, .int .i64 0, .int .i64 (-1)] 30)).heap[w1.heap.size]? = some (.cells #[.int .i64 2, .int .u64 (Oct.word xset 0 : Nat), .int .u64 (Oct.word xset 1 : Nat), .int .u64 (Oct.word xset 2 : Nat), .int .u64 (Oct.word xset 3 : Nat), .slice none 0 0, .int .i64 0, .int .i64 0] 30 (0, 0)) := (hk.block _ (by simp)).trans (heap_alloc_new w1 _)
  refine .mk 5 Oct.none [leafT] 0 (-1) (some ⟨w1.heap.size, 0, none⟩) 1 1 [⟨2, xset, none, 0, 0, 0, 0⟩] rfl rfl (by decide) (Or.inr ⟨_, 0, rfl, trivial, fun j v hj => ?_⟩) (fun i t v ht hv => ?_)
  · simp only [World.cell?, hg, Nat.zero_add]
    rw [← Array.getElem?_toList]
    exact hj
  · cases i with
    | zero =>
      simp at ht hv
      subst ht hv
      exact .mk 2 xset [] 0 0 none 0 0 [] rfl rfl (by decide) (Or.inl rfl) (fun i t v h => by simp at h)
    | succ i => simp at ht
set_option maxRecDepth 4000 in
set_option maxHeartbeats 16000000 in
theorem known_any (hBd : BuildOK) (hUn : UnionOK) (hRt : RightOK) : KnownOK := by
  intro w
  go_enter Try.func7, Try.ntmps7
  go_wp2_with fail
  refine (byteSet_any w).mono ?_
  rintro e w1 ⟨rfl, kk⟩
  have HB1 : Hid (Below w.heap.size w w1) := kk
  clear kk
  have HIN : Hid (InAt ((w1.alloc (.cells #[.int .i64 2, .int .u64 (Oct.word xset 0 : Nat), .int .u64 (Oct.word xset 1 : Nat), .int .u64 (Oct.word xset 2 : Nat), .int .u64 (Oct.word xset 3 : Nat), .slice none 0 0, .int .i64 0, .int .i64 0] 30)).alloc (.cells #[.int .i64 5, .int .u64 0, .int .u64 0, .int .u64 0, .int .u64 0, .slice (some ⟨w1.heap.size, 0, none⟩) 1 1, .int .i64 0, .int .i64 (-1)] 30)) starT ⟨5, Oct.none, some ⟨w1.heap.size, 0, none⟩, 1, 1, 0, -1⟩) := star_in w1
  have HNB : Hid (NB ((w1.alloc (.cells #[.int .i64 2, .int .u64 (Oct.word xset 0 : Nat), .int .u64 (Oct.word xset 1 : Nat), .int .u64 (Oct.word xset 2 : Nat), .int .u64 (Oct.word xset 3 : Nat), .slice none 0 0, .int .i64 0, .int .i64 0] 30)).alloc (.cells #[.int .i64 5, .int .u64 0, .int .u64 0, .int .u64 0, .int .u64 0, .slice (some ⟨w1.heap.size, 0, none⟩) 1 1, .int .i64 0, .int .i64 (-1)] 30)) (w1.heap.size + 1) ⟨5, Oct.none, some ⟨w1.heap.size, 0, none⟩, 1, 1, 0, -1⟩) := by
    have h := heap_alloc_new (w1.alloc (.cells #[.int .i64 2, .int .u64 (Oct.word xset 0 : Nat), .int .u64 (Oct.word xset 1 : Nat), .int .u64 (Oct.word xset 2 : Nat), .int .u64 (Oct.word xset 3 : Nat), .slice none 0 0, .int .i64 0, .int .i64 0] 30)) (.cells #[.int .i64 5, .int .u64 0, .int .u64 0, .int .u64 0, .int .u64 0, .slice (some ⟨w1.heap.size, 0, none⟩) 1 1, .int .i64 0, .int .i64 (-1)] 30)
    rw [show (w1.alloc (.cells #[.int .i64 2, .int .u64 (Oct.word xset 0 : Nat), .int .u64 (Oct.word xset 1 : Nat), .int .u64 (Oct.word xset 2 : Nat), .int .u64 (Oct.word xset 3 : Nat), .slice none 0 0, .int .i64 0, .int .i64 0] 30)).heap.size = w1.heap.size + 1 by simp] at h
    unfold NB
    simp only [word0]
    exact h
  have HB3 : Hid (Below w.heap.size w ((w1.alloc (.cells #[.int .i64 2, .int .u64 (Oct.word xset 0 : Nat), .int .u64 (Oct.word xset 1 : Nat), .int .u64 (Oct.word xset 2 : Nat), .int .u64 (Oct.word xset 3 : Nat), .slice none 0 0, .int .i64 0, .int .i64 0] 30)).alloc (.cells #[.int .i64 5, .int .u64 0, .int .u64 0, .int .u64 0, .int .u64 0, .slice (some ⟨w1.heap.size, 0, none⟩) 1 1, .int .i64 0, .int .i64 (-1)] 30))) := below_step HB1.out (((Below.refl _ _).alloc (Nat.le_refl _) _).alloc (by simp) _)
  unfold Nd.val
  simp only
  go_upto_region 2 with fail
  obtain ⟨w3, hw3⟩ : ∃ w3, (w1.alloc (.cells #[.int .i64 2, .int .u64 (Oct.word xset 0 : Nat), .int .u64 (Oct.word xset 1 : Nat), .int .u64 (Oct.word xset 2 : Nat), .int .u64 (Oct.word xset 3 : Nat), .slice none 0 0, .int .i64 0, .int .i64 0] 30)).alloc (.cells #[.int .i64 5, .int .u64 0, .int .u64 0, .int .u64 0, .int .u64 0, .slice (some ⟨w1.heap.size, 0, none⟩) 1 1, .int .i64 0, .int .i64 (-1)] 30) = w3 := ⟨_, rfl⟩
  obtain ⟨A3, hA3⟩ : ∃ A3, w1.heap.size + 1 = A3 := ⟨_, rfl⟩
  rw [hw3] at HIN HNB HB3 ⊢
  rw [hA3] at HNB ⊢
  clear hw3 hA3
  obtain ⟨y0, y1, y2, y3, y4, y5, y6, y7⟩ := HNB.out.cells
  simp only [word0] at y0 y1 y2 y3 y4 y5 y6 y7
  have HC : Hid (Calls Try.prog 11 #[Nd.val ⟨5, Oct.none, some ⟨w1.heap.size, 0, none⟩, 1, 1, 0, -1⟩, .int .i64 3] w3 _) := hBd starT ⟨5, Oct.none, some ⟨w1.heap.size, 0, none⟩, 1, 1, 0, -1⟩ w3 3 HIN.out
  unfold Nd.val at HC
  simp only [word0] at HC
  go_wp2_with fail
  refine HC.out.mono ?_
  rintro e w4 ⟨kk, p, rfl, hp⟩
  rw [star_build] at hp
  rw [star_build]
  simp only at hp ⊢
  have HB4 : Hid (Below w.heap.size w w4) := below_step HB3.out kk
  have HP4 : Hid (MaAt (fun _ => True) w4 starM p) := hp.keep (fun _ _ _ => trivial) (fun _ _ _ => rfl)
  clear kk hp HC HIN HNB HB3 y0 y1 y2 y3 y4 y5 y6 y7
  obtain ⟨pS, pa, pn, pc, pra, prn, prc⟩ := p
  have e1 : pS = 4 := HP4.out.s
  have e2 : pn = 4 := HP4.out.n
  have e3 : prn = 4 := HP4.out.r
  subst e1 e2 e3
  obtain ⟨b, off, ha, p0, p1, p2, p3, p4, p5, p6⟩ := HP4.out.e.nth (i := 0) (e := ⟨1, 0, 1, Oct.none⟩) rfl
  obtain ⟨b', off', ha', s0, s1, s2, s3, s4, s5, s6⟩ := HP4.out.e.nth (i := 2) (e := ⟨1, 2, 1, Oct.none⟩) rfl
  obtain ⟨b2, off2, ha2, u3⟩ := HP4.out.u.nth (i := 3) (x := 8) rfl
  simp only at ha ha' ha2
  subst ha
  cases ha'
  subst ha2
  simp only [word0, Nat.zero_mul, Nat.add_zero] at p0 p1 p2 p3 p4 p5 p6
  simp only [word0] at s0 s1 s2 s3 s4 s5 s6
  have HCE : Hid (∀ u : World, Below w4.heap.size w4 u → (u.cell? ⟨b, off, none⟩ = some (.int .i64 1) ∧ u.cell? ⟨b, off + 1, none⟩ = some (.int .i64 0) ∧ u.cell? ⟨b, off + 2, none⟩ = some (.int .i64 1) ∧ u.cell? ⟨b, off + 3, none⟩ = some (.int .u64 0) ∧ u.cell? ⟨b, off + 4, none⟩ = some (.int .u64 0) ∧ u.cell? ⟨b, off + 5, none⟩ = some (.int .u64 0) ∧ u.cell? ⟨b, off + 6, none⟩ = some (.int .u64 0)) ∧ (u.cell? ⟨b, off + 14, none⟩ = some (.int .i64 1) ∧ u.cell? ⟨b, off + 14 + 1, none⟩ = some (.int .i64 2) ∧ u.cell? ⟨b, off + 14 + 2, none⟩ = some (.int .i64 1) ∧ u.cell? ⟨b, off + 14 + 3, none⟩ = some (.int .u64 0) ∧ u.cell? ⟨b, off + 14 + 4, none⟩ = some (.int .u64 0) ∧ u.cell? ⟨b, off + 14 + 5, none⟩ = some (.int .u64 0) ∧ u.cell? ⟨b, off + 14 + 6, none⟩ = some (.int .u64 0)) ∧ u.cell? ⟨b2, off2 + 3, none⟩ = some (.int .u32 8)) := fun u hu => by
    have hb := hu.block b (lt_of_cell p0)
    have hb2 := hu.block b2 (lt_of_cell u3)
    have g1 : ∀ (j : Nat) (v : Value), w4.cell? ⟨b, j, none⟩ = some v → u.cell? ⟨b, j, none⟩ = some v := fun j v h => (World.cell?_of_block (a := ⟨b, j, none⟩) hb).trans h
    exact ⟨⟨g1 _ _ p0, g1 _ _ p1, g1 _ _ p2, g1 _ _ p3, g1 _ _ p4, g1 _ _ p5, g1 _ _ p6⟩, ⟨g1 _ _ s0, g1 _ _ s1, g1 _ _ s2, g1 _ _ s3, g1 _ _ s4, g1 _ _ s5, g1 _ _ s6⟩, (World.cell?_of_block (a := ⟨b2, off2 + 3, none⟩) hb2).trans u3⟩
  clear p0 p1 p2 p3 p4 p5 p6 s0 s1 s2 s3 s4 s5 s6 u3
  have kk : Below w4.heap.size w4 (w4.alloc (.cells #[.int .i64 4, .slice (some ⟨b, off, none⟩) 4 pc, .slice (some ⟨b2, off2, none⟩) 4 prc] 38)) := (Below.refl _ _).alloc (Nat.le_refl _) _
  have HB5 : Hid (Below w.heap.size w (w4.alloc (.cells #[.int .i64 4, .slice (some ⟨b, off, none⟩) 4 pc, .slice (some ⟨b2, off2, none⟩) 4 prc] 38))) := below_step HB4.out kk
  have HN5 : Hid (NFB (w4.alloc (.cells #[.int .i64 4, .slice (some ⟨b, off, none⟩) 4 pc, .slice (some ⟨b2, off2, none⟩) 4 prc] 38)) w4.heap.size ⟨4, some ⟨b, off, none⟩, 4, pc, some ⟨b2, off2, none⟩, 4, prc⟩) := nfb_new w4 ⟨4, some ⟨b, off, none⟩, 4, pc, some ⟨b2, off2, none⟩, 4, prc⟩
  have HP5 : Hid (MaAt (fun _ => True) (w4.alloc (.cells #[.int .i64 4, .slice (some ⟨b, off, none⟩) 4 pc, .slice (some ⟨b2, off2, none⟩) 4 prc] 38)) starM ⟨4, some ⟨b, off, none⟩, 4, pc, some ⟨b2, off2, none⟩, 4, prc⟩) := HP4.out.later kk
  have HD5 : Hid (Below w4.heap.size w4 (w4.alloc (.cells #[.int .i64 4, .slice (some ⟨b, off, none⟩) 4 pc, .slice (some ⟨b2, off2, none⟩) 4 prc] 38))) := kk
  unfold Nf.val
  simp only
  go_upto_region 3 with fail
  obtain ⟨w5, hw5⟩ : ∃ w5, w4.alloc (.cells #[.int .i64 4, .slice (some ⟨b, off, none⟩) 4 pc, .slice (some ⟨b2, off2, none⟩) 4 prc] 38) = w5 := ⟨_, rfl⟩
  obtain ⟨A5, hA5⟩ : ∃ A5, w4.heap.size = A5 := ⟨_, rfl⟩
  rw [hw5] at HB5 HN5 HP5 HD5 ⊢
  rw [hA5] at HN5 ⊢
  clear hw5 hA5 kk
  obtain ⟨z0, z1, z2⟩ := HN5.out.cells
  simp only at z0 z1 z2
  have kk : Below w5.heap.size w5 (w5.alloc (.cells #[.int .i64 4, .slice (some ⟨b, off, none⟩) 4 pc, .slice (some ⟨b2, off2, none⟩) 4 prc, .int .i64 4, .slice (some ⟨b, off, none⟩) 4 pc, .slice (some ⟨b2, off2, none⟩) 4 prc] 38)) := (Below.refl _ _).alloc (Nat.le_refl _) _
  have HL6 : Hid (ListAt (w5.alloc (.cells #[.int .i64 4, .slice (some ⟨b, off, none⟩) 4 pc, .slice (some ⟨b2, off2, none⟩) 4 prc, .int .i64 4, .slice (some ⟨b, off, none⟩) 4 pc, .slice (some ⟨b2, off2, none⟩) 4 prc] 38)) (some ⟨w5.heap.size, 0, none⟩) [starM, starM] [⟨4, some ⟨b, off, none⟩, 4, pc, some ⟨b2, off2, none⟩, 4, prc⟩, ⟨4, some ⟨b, off, none⟩, 4, pc, some ⟨b2, off2, none⟩, 4, prc⟩]) := by
    refine ⟨Or.inr ⟨w5.heap.size, 0, rfl, fun j v hj => ?_⟩, rfl, fun i M x hM hx => ?_⟩
    · simp only [World.cell?, heap_alloc_new, Nat.zero_add]
      rw [← Array.getElem?_toList]
      exact hj
    · have h5 := HP5.out.later kk
      match i with
      | 0 => simp at hM hx; subst hM hx; exact h5
      | 1 => simp at hM hx; subst hM hx; exact h5
      | i + 2 => simp at hM
  have HC : Hid (Calls Try.prog 21 #[.slice (some ⟨w5.heap.size, 0, none⟩) 2 2] (w5.alloc (.cells #[.int .i64 4, .slice (some ⟨b, off, none⟩) 4 pc, .slice (some ⟨b2, off2, none⟩) 4 prc, .int .i64 4, .slice (some ⟨b, off, none⟩) 4 pc, .slice (some ⟨b2, off2, none⟩) 4 prc] 38)) _) := hUn [starM, starM] [⟨4, some ⟨b, off, none⟩, 4, pc, some ⟨b2, off2, none⟩, 4, prc⟩, ⟨4, some ⟨b, off, none⟩, 4, pc, some ⟨b2, off2, none⟩, 4, prc⟩] (some ⟨w5.heap.size, 0, none⟩) 2 (w5.alloc (.cells #[.int .i64 4, .slice (some ⟨b, off, none⟩) 4 pc, .slice (some ⟨b2, off2, none⟩) 4 prc, .int .i64 4, .slice (some ⟨b, off, none⟩) 4 pc, .slice (some ⟨b2, off2, none⟩) 4 prc] 38)) HL6.out (by decide) (by decide) (by decide) star_bounds.1 star_bounds.2
  go_wp2_with fail
  refine HC.out.mono ?_
  rintro e w7 ⟨k7, q, rfl, hq⟩
  obtain ⟨su1, su2, su3, su4⟩ := star_union
  rw [su1]
  have HB7 : Hid (Below w.heap.size w w7) := below_step (below_step HB5.out kk) k7
  have HD7 : Hid (Below w4.heap.size w4 w7) := below_step (below_step HD5.out kk) k7
  have HN7 : Hid (NFB w7 A5 ⟨4, some ⟨b, off, none⟩, 4, pc, some ⟨b2, off2, none⟩, 4, prc⟩) := (HN5.out.later kk).later k7
  have HQ7 : Hid (MaAt (fun _ => True) w7 (unionOf [starM, starM]).1 q) := hq.keep (fun _ _ _ => trivial) (fun _ _ _ => rfl)
  have HRU : Hid (rightOf (unionOf [starM, starM]).1 = true) := su4
  clear kk k7 hq HC HL6 HB5 HN5 HP5 HP4 HB4 HB1 z0 z1 z2 HD5
  obtain ⟨qS, qa, qn, qc, qra, qrn, qrc⟩ := q
  have e1 : qS = 9 := HQ7.out.s.trans su2
  have e2 : qn = 10 := HQ7.out.n.trans su3
  subst e1 e2
  have HUL : Hid ((unionOf [starM, starM]).1.es.length ≤ 10000000 ∧ (unionOf [starM, starM]).1.rs.length ≤ 10000000) := union_bounds star_bounds.1 star_bounds.2
  clear su1 su2 su3 su4
  have kk : Below w7.heap.size w7 (w7.alloc (.cells #[.int .i64 9, .slice qa 10 qc, .slice qra qrn qrc] 38)) := (Below.refl _ _).alloc (Nat.le_refl _) _
  have HB8 : Hid (Below w.heap.size w (w7.alloc (.cells #[.int .i64 9, .slice qa 10 qc, .slice qra qrn qrc] 38))) := below_step HB7.out kk
  have HD8 : Hid (Below w4.heap.size w4 (w7.alloc (.cells #[.int .i64 9, .slice qa 10 qc, .slice qra qrn qrc] 38))) := below_step HD7.out kk
  have HN8 : Hid (NFB (w7.alloc (.cells #[.int .i64 9, .slice qa 10 qc, .slice qra qrn qrc] 38)) A5 ⟨4, some ⟨b, off, none⟩, 4, pc, some ⟨b2, off2, none⟩, 4, prc⟩) := HN7.out.later kk
  have HM8 : Hid (NFB (w7.alloc (.cells #[.int .i64 9, .slice qa 10 qc, .slice qra qrn qrc] 38)) w7.heap.size ⟨9, qa, 10, qc, qra, qrn, qrc⟩) := nfb_new w7 ⟨9, qa, 10, qc, qra, qrn, qrc⟩
  have HQ8 : Hid (MaAt (fun _ => True) (w7.alloc (.cells #[.int .i64 9, .slice qa 10 qc, .slice qra qrn qrc] 38)) (unionOf [starM, starM]).1 ⟨9, qa, 10, qc, qra, qrn, qrc⟩) := HQ7.out.later kk
  unfold Nf.val
  simp only
  go_upto_region 4 with fail
  obtain ⟨w8, hw8⟩ : ∃ w8, w7.alloc (.cells #[.int .i64 9, .slice qa 10 qc, .slice qra qrn qrc] 38) = w8 := ⟨_, rfl⟩
  obtain ⟨A8, hA8⟩ : ∃ A8, w7.heap.size = A8 := ⟨_, rfl⟩
  rw [hw8] at HB8 HD8 HN8 HM8 HQ8 ⊢
  rw [hA8] at HM8 ⊢
  clear hw8 hA8 kk HB7 HD7 HN7 HQ7
  obtain ⟨z0, z1, z2⟩ := HN8.out.cells
  obtain ⟨t0, t1, t2⟩ := HM8.out.cells
  simp only at z0 z1 z2 t0 t1 t2
  obtain ⟨_, _, u3⟩ := HCE.out w8 HD8.out
  have HNUM : Hid (Calls Try.prog 10 #[.int .i64 0] w8 fun e w' => e = .returned (.int .i64 0) ∧ w' = w8) := num_any 0 w8
  go_wp2_with fail
  refine HNUM.out.mono ?_
  rintro e w9 ⟨rfl, rfl⟩
  go_wp2_with fail
  refine HNUM.out.mono ?_
  rintro e w10 ⟨rfl, rfl⟩
  have HC : Hid (Calls Try.prog 12 #[Nf.val ⟨9, qa, 10, qc, qra, qrn, qrc⟩] _ _) := hRt (unionOf [starM, starM]).1 ⟨9, qa, 10, qc, qra, qrn, qrc⟩ _ HQ8.out HUL.out.1 HUL.out.2
  rw [HRU.out] at HC
  unfold Nf.val at HC
  simp only at HC
  go_wp2_with fail
  refine HC.out.mono ?_
  rintro e w11 ⟨rfl, kk⟩
  have HB11 : Hid (Below w.heap.size w w11) := below_step HB8.out kk
  have HD11 : Hid (Below w4.heap.size w4 w11) := below_step HD8.out kk
  have HN11 : Hid (NFB w11 A5 ⟨4, some ⟨b, off, none⟩, 4, pc, some ⟨b2, off2, none⟩, 4, prc⟩) := HN8.out.later kk
  clear kk HC z0 z1 z2 t0 t1 t2 u3 HNUM
  obtain ⟨z0, z1, z2⟩ := HN11.out.cells
  simp only at z0 z1 z2
  obtain ⟨⟨p0, p1, p2, p3, p4, p5, p6⟩, ⟨s0, s1, s2, s3, s4, s5, s6⟩, _⟩ := HCE.out w11 HD11.out
  have hq4 : (Op.equalIn 9999 27 (.agg #[.int .u64 0, .int .u64 0, .int .u64 0, .int .u64 0]) (.agg #[.int .u64 0, .int .u64 0, .int .u64 0, .int .u64 0])).run Try.prog w11 = .ok true w11 := eq4_any 9997 0 0 0 0 w11
  have HC : Hid (Calls Try.prog 12 #[Nf.val ⟨1, none, 0, 0, none, 0, 0⟩] w11 _) := hRt ⟨1, [], []⟩ ⟨1, none, 0, 0, none, 0, 0⟩ w11 ⟨rfl, rfl, rfl, Or.inl rfl, Or.inl rfl⟩ (by decide) (by decide)
  rw [one_right] at HC
  unfold Nf.val at HC
  simp only at HC
  go_wp2_with fail
  refine HC.out.mono ?_
  rintro e w12 ⟨rfl, kk⟩
  have HB12 : Hid (Below w.heap.size w w12) := below_step HB11.out kk
  clear kk HC
  go_wp2
  go_ret
  exact ⟨rfl, HB12.out⟩
end Go.Proofs.Ytjmbimgofceanaa

/- NfaMeets, walked. -/
namespace Go.Proofs.Ytjmbimgofceanaa
open Go.RowKit
attribute [local go_sem ↓] Go.wp_at_zero Go.wp_at_succ

theorem gm_low {w w' : World} (h : GM w) (hb : Below w.heap.size w w') : GM w' := by
  obtain ⟨m, hm⟩ := h
  exact ⟨m, (World.cell?_of_block (w := w) (hb.block 0 (lt_of_cell hm))).trans hm⟩
theorem num_int2 (k : Int) (w : World) : Calls Try.prog 10 #[.int .i64 k] w fun e w' => e = .returned (.int .i64 k) ∧ w = w' := by
  go_enter Try.func10, Try.ntmps10
  go_wp2
  go_ret
  exact ⟨rfl, rfl⟩
end Go.Proofs.Ytjmbimgofceanaa

/- heronlaw07's kept of a copy. -/
namespace Go.Proofs.Ytjmbimgofceanaa
open Go.RowKit
attribute [local go_sem ↓] Go.wp_at_zero Go.wp_at_succ

set_option maxRecDepth 4000 in
set_option maxHeartbeats 16000000 in
theorem kept_any {X Y : Nat → Prop} {M : Ma} {x y : Nf} (w : World) (hx : Cop X w M x) (hy : MaAt Y w M y) (he : M.es.length ≤ 10000000) (hr : M.rs.length ≤ 10000000) : Calls Try.prog 24 #[x.val, y.val] w fun e w' => e = .returned (.bool true) ∧ Below w.heap.size w w' := by
  have kk : Below w.heap.size w ((w.alloc (.cells #[.int .i64 x.S, .slice x.ea x.en x.ec, .slice x.ra x.rn x.rc] 38)).alloc (.cells #[.int .i64 y.S, .slice y.ea y.en y.ec, .slice y.ra y.rn y.rc] 38)) := ((Below.refl _ _).alloc (Nat.le_refl _) _).alloc (by simp) _
  have HNX : Hid (NFB ((w.alloc (.cells #[.int .i64 x.S, .slice x.ea x.en x.ec, .slice x.ra x.rn x.rc] 38)).alloc (.cells #[.int .i64 y.S, .slice y.ea y.en y.ec, .slice y.ra y.rn y.rc] 38)) w.heap.size x) := (nfb_new w x).later ((Below.refl _ _).alloc (Nat.le_refl _) _)
  have HNY : Hid (NFB ((w.alloc (.cells #[.int .i64 x.S, .slice x.ea x.en x.ec, .slice x.ra x.rn x.rc] 38)).alloc (.cells #[.int .i64 y.S, .slice y.ea y.en y.ec, .slice y.ra y.rn y.rc] 38)) (w.heap.size + 1) y) := by
    have h1 := nfb_new (w.alloc (.cells #[.int .i64 x.S, .slice x.ea x.en x.ec, .slice x.ra x.rn x.rc] 38)) y
    rw [show (w.alloc (.cells #[.int .i64 x.S, .slice x.ea x.en x.ec, .slice x.ra x.rn x.rc] 38)).heap.size = w.heap.size + 1 by simp] at h1
    exact h1
  have HB : Hid (Below w.heap.size w ((w.alloc (.cells #[.int .i64 x.S, .slice x.ea x.en x.ec, .slice x.ra x.rn x.rc] 38)).alloc (.cells #[.int .i64 y.S, .slice y.ea y.en y.ec, .slice y.ra y.rn y.rc] 38))) := kk
  obtain ⟨w2, hw2⟩ : ∃ w2, ((w.alloc (.cells #[.int .i64 x.S, .slice x.ea x.en x.ec, .slice x.ra x.rn x.rc] 38)).alloc (.cells #[.int .i64 y.S, .slice y.ea y.en y.ec, .slice y.ra y.rn y.rc] 38)) = w2 := ⟨_, rfl⟩
  rw [hw2] at HNX HNY HB
  obtain ⟨A, hA⟩ : ∃ A, w.heap.size = A := ⟨_, rfl⟩
  obtain ⟨C, hC⟩ : ∃ C, w.heap.size + 1 = C := ⟨_, rfl⟩
  rw [hA] at HNX
  rw [hC] at HNY
  have HW2 : Hid (((w.alloc (.cells #[.int .i64 x.S, .slice x.ea x.en x.ec, .slice x.ra x.rn x.rc] 38)).alloc (.cells #[.int .i64 y.S, .slice y.ea y.en y.ec, .slice y.ra y.rn y.rc] 38)) = w2) := hw2
  have HAA : Hid (w.heap.size = A) := hA
  have HCC : Hid (w.heap.size + 1 = C) := hC
  have HX : Hid (Cop X w2 M x) := hx.later HB.out
  have HY : Hid (MaAt Y w2 M y) := hy.later HB.out
  have HCALL : Hid (∀ u : Later w2, Calls Try.prog 19 #[x.val, y.val] u.at_ fun e w' => e = .returned (.bool true) ∧ Below u.at_.heap.size u.at_ w') := fun u => same_any u.at_ (HX.out.later u.below).ma (HY.out.later u.below) (by omega) (by omega)
  clear hw2 hA hC kk hx hy
  obtain ⟨xS, xa, xn, xc, xra, xrn, xrc⟩ := x
  obtain ⟨yS, ya, yn, yc, yra, yrn, yrc⟩ := y
  have e3 : xn = M.es.length := HX.out.n
  have e4 : yn = M.es.length := HY.out.n
  have e5 : xrn = M.rs.length := HX.out.r
  have e6 : yrn = M.rs.length := HY.out.r
  obtain ⟨n, hn⟩ : ∃ n, M.es.length = n := ⟨_, rfl⟩
  obtain ⟨rn, hrn⟩ : ∃ rn, M.rs.length = rn := ⟨_, rfl⟩
  rw [hn] at e3 e4 he
  rw [hrn] at e5 e6 hr
  subst e3 e5
  subst e4 e6
  have hec : yn + 1 ≤ xc ∧ xc ≤ maxLen := by have := HX.out.ec; rw [hn] at this; exact this
  have hrc : yrn + 1 ≤ xrc ∧ xrc ≤ maxLen := by have := HX.out.rc; rw [hrn] at this; exact this
  obtain ⟨hec1, hec2⟩ := hec
  obtain ⟨hrc1, hrc2⟩ := hrc
  simp only [maxLen] at hec2 hrc2
  obtain ⟨b, off, hxa, m0, _⟩ := HX.out.e.nth (i := yn) (e := markE) (by rw [← hn, List.getElem?_append_right (Nat.le_refl _)]; simp)
  obtain ⟨b', off', hxra, m1⟩ := HX.out.u.nth (i := yrn) (x := 77) (by rw [← hrn, List.getElem?_append_right (Nat.le_refl _)]; simp)
  simp only at hxa hxra
  subst hxa hxra
  have M0 : ∀ u : Later w2, u.at_.cell? ⟨b, off + yn * 7, none⟩ = some (.int .i64 77) := fun u => (World.cell?_of_block (a := ⟨b, off + yn * 7, none⟩) (u.below.block b (lt_of_cell m0))).trans m0
  have M1 : ∀ u : Later w2, u.at_.cell? ⟨b', off' + yrn, none⟩ = some (.int .u32 77) := fun u => (World.cell?_of_block (a := ⟨b', off' + yrn, none⟩) (u.below.block b' (lt_of_cell m1))).trans m1
  have x0 : ∀ u : Later w2, u.at_.cell? ⟨A, 0, none⟩ = some (.int .i64 xS) := fun u => (HNX.out.later u.below).cells.1
  have x1 : ∀ u : Later w2, u.at_.cell? ⟨A, 1, none⟩ = some (.slice (some ⟨b, off, none⟩) yn xc) := fun u => (HNX.out.later u.below).cells.2.1
  have x2 : ∀ u : Later w2, u.at_.cell? ⟨A, 2, none⟩ = some (.slice (some ⟨b', off', none⟩) yrn xrc) := fun u => (HNX.out.later u.below).cells.2.2
  have y0 : ∀ u : Later w2, u.at_.cell? ⟨C, 0, none⟩ = some (.int .i64 yS) := fun u => (HNY.out.later u.below).cells.1
  have y1 : ∀ u : Later w2, u.at_.cell? ⟨C, 1, none⟩ = some (.slice ya yn yc) := fun u => (HNY.out.later u.below).cells.2.1
  have y2 : ∀ u : Later w2, u.at_.cell? ⟨C, 2, none⟩ = some (.slice yra yrn yrc) := fun u => (HNY.out.later u.below).cells.2.2
  have hne : Nonempty (Later w2) := ⟨⟨w2, Below.refl _ _⟩⟩
  unfold Nf.val at HCALL
  unfold Nf.val
  simp only at HW2 ⊢
  clear hn hrn m0 m1 HX HY
  go_enter Try.func24, Try.ntmps24
  go_upto_region 1 with fail
  rw [HW2.out, HCC.out, HAA.out]
  clear HW2
  obtain ⟨N1, hN1⟩ : ∃ N1, yn + 1 = N1 := ⟨_, rfl⟩
  obtain ⟨R1, hR1⟩ : ∃ R1, yrn + 1 = R1 := ⟨_, rfl⟩
  have w2a : ((yn : Int) + 1) = (N1 : Int) := by omega
  have w2b : ((yrn : Int) + 1) = (R1 : Int) := by omega
  have hN2 : N1 ≤ xc := by omega
  have hR2 : R1 ≤ xrc := by omega
  have hN3 : (N1 : Int) ≤ (xc : Int) := by omega
  have hR3 : (R1 : Int) ≤ (xrc : Int) := by omega
  have hN4 : (yn : Int) < (N1 : Int) := by omega
  have hR4 : (yrn : Int) < (R1 : Int) := by omega
  have hN5 : yn < N1 := by omega
  have hR5 : yrn < R1 := by omega
  refine wp_region_later (by kernel_rfl) (by kernel_rfl) ?_
  repeat (first
    | go_big_quiet_step ((go_at_call 19; exact calls_later (HCALL.out _)))
    | quiet_step ((go_at_call 19; exact calls_later (HCALL.out _))))
  refine wpQuiet_nil ?_
  intro _ hw'
  obtain ⟨u, hw''⟩ := hw'
  subst hw''
  go_wp2
  go_ret
  exact ⟨rfl, below_step HB.out u.below⟩
end Go.Proofs.Ytjmbimgofceanaa

