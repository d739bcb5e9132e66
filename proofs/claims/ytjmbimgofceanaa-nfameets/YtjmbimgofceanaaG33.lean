/- A pattern in brackets: the same tree, one deeper. -/
import Derived.Test.YtjmbimgofceanaaG32
import Derived.Test.YtjmbimgofceanaaG30
import Derived.Test.YtjmbimgofceanaaG25
import Derived.Test.YtjmbimgofceanaaG21
import Derived.Test.YtjmbimgofceanaaG22
import Derived.Test.YtjmbimgofceanaaG29
namespace Go.Proofs.Ytjmbimgofceanaa

theorem byt_app (a b : ByteArray) (i : Nat) : byt (a ++ b) i = if i < a.size then byt a i else byt b (i - a.size) := by
  have ha : a.data.toList.length = a.size := by simp
  rw [byt_list, byt_list, byt_list, ByteArray.data_append, Array.toList_append, List.getD_eq_getElem?_getD, List.getD_eq_getElem?_getD, List.getD_eq_getElem?_getD]
  by_cases h : i < a.size
  · rw [if_pos h, List.getElem?_append_left (by omega)]
  · rw [if_neg h, List.getElem?_append_right (by omega), ha]
theorem byt_one (c : UInt8) (i : Nat) : byt ⟨#[c]⟩ i = if i = 0 then c.toNat else 0 := by
  rw [byt_list]
  cases i with
  | zero => rfl
  | succ i => rw [if_neg (by omega)]; simp
theorem size_one (c : UInt8) : (⟨#[c]⟩ : ByteArray).size = 1 := rfl
theorem sh_app (a b : ByteArray) : Sh b (a ++ b) a.size := by
  refine ⟨fun i => ?_, by rw [ByteArray.size_append]; omega⟩
  rw [byt_app, if_neg (by omega), Nat.add_sub_cancel]
theorem stops_app (p b : ByteArray) (c : UInt8) (hc : c = 41 ∨ c = 124) : Stops p (p ++ (⟨#[c]⟩ ++ b)) := by
  refine ⟨⟨fun i hi => ?_, Nat.le_refl _, ?_⟩, Or.inr ?_⟩
  · rw [byt_app, if_pos hi]
  · rw [ByteArray.size_append]; omega
  · rw [byt_app, if_neg (by omega), Nat.sub_self, byt_app, if_pos (by rw [size_one]; omega), byt_one, if_pos rfl]
    rcases hc with rfl | rfl
    · exact Or.inl rfl
    · exact Or.inr rfl
theorem stops_self (p : ByteArray) : Stops p p := ⟨⟨fun _ _ => rfl, Nat.le_refl _, Nat.le_refl _⟩, Or.inl rfl⟩
theorem sk_bars {p : ByteArray} {q b : Nat} (h : Sk p 0 p.size q b) : skim p p.size ⟨0, 0, 0, 0⟩ = ⟨p.size, 0, q, b⟩ := by
  have h1 := (h 0 0 0 (by omega) (by omega)).ends (Nat.le_refl _) p.size (by simp)
  rw [h1]
  congr 1
  · omega
  · simp
/-- what a pattern that is read tells: how deep, how many '|' -/
theorem read_bars {p : ByteArray} {t : Tr} (hp : patOf p = .ok t p.size) : ∃ q b : Nat, skim p p.size ⟨0, 0, 0, 0⟩ = ⟨p.size, 0, q, b⟩ ∧ (b = 0 → alt p (8 * p.size + 7) 0 0 = .ok t p.size) ∧ q ≤ 64 ∧ (∀ s', Stops p s' → sees s' p.size 124 = false → Deep (fun d' => pat s' (8 * p.size + 8) d' 0) t p.size q) ∧ (b = 0 → ∀ s', Stops p s' → Deep (fun d' => alt s' (8 * p.size + 7) d' 0) t p.size q) := by
  obtain ⟨q, b, s1, s2, s3⟩ := (read_rise (stops_self p) (8 * p.size + 8)).1 0 0 t p.size hp (Nat.zero_le _)
  have hk := sk_bars s1
  have hq : q ≤ 64 := by
    have h1 := (s3 (Or.inr (by simp [sees]))).2 0 (by omega)
    by_cases e : q ≤ 64
    · exact e
    · obtain ⟨a, ha⟩ := h1 (by omega)
      have h2 : patOf p = .bad a 47 := ha
      rw [hp] at h2
      cases h2
  refine ⟨q, b, hk, s2, hq, fun s' hs hb => ?_, fun hb s' hs => ?_⟩
  · obtain ⟨q', b', t1, _, t3⟩ := (read_rise hs (8 * p.size + 8)).1 0 0 t p.size hp (Nat.zero_le _)
    have hk' := sk_bars t1
    rw [hk] at hk'
    have e : q = q' := by injection hk' with _ _ h3 _; omega
    rw [e]
    exact t3 (Or.inr hb)
  · obtain ⟨q', t1, t3⟩ := (read_rise hs (8 * p.size + 7)).2.2.1 0 0 t p.size (s2 hb) (Nat.zero_le _)
    have hk' := sk_bars t1
    rw [hk] at hk'
    have e : q = q' := by injection hk' with _ _ h3 _; omega
    rw [e]
    exact t3
/-- a group that holds it -/
theorem group_in {p B S : ByteArray} {o q : Nat} {t : Tr} (hD : ∀ s', Stops p s' → sees s' p.size 124 = false → Deep (fun d' => pat s' (8 * p.size + 8) d' 0) t p.size q) (hS : Sh (p ++ (⟨#[41]⟩ ++ B)) S (o + 1)) (n d : Nat) (hn : 8 * p.size + 8 ≤ n) (hd : d ≤ 63) :
    (d + 1 + q ≤ 64 → group S (n + 1) d o = .ok t (o + p.size + 2)) ∧ (64 < d + 1 + q → ∃ a, group S (n + 1) d o = .bad a 47) := by
  have hst := stops_app p B 41 (Or.inl rfl)
  have hb : byt (p ++ (⟨#[41]⟩ ++ B)) p.size = 41 := by
    rw [byt_app, if_neg (by omega), Nat.sub_self, byt_app, if_pos (by rw [size_one]; omega), byt_one, if_pos rfl]; rfl
  obtain ⟨a1, a2⟩ := hD _ hst (by unfold sees; simp [hb])
  have hsz : (p ++ (⟨#[41]⟩ ++ B)).size = p.size + 1 + B.size := by rw [ByteArray.size_append, ByteArray.size_append, size_one]; omega
  have hz := hS.z
  obtain ⟨k, rfl⟩ : ∃ k, n = 8 * p.size + 8 + k := ⟨n - (8 * p.size + 8), by omega⟩
  have hm : ∀ d', pat S (8 * p.size + 8) d' (o + 1) = .out ∨ pat S (8 * p.size + 8 + k) d' (o + 1) = pat S (8 * p.size + 8) d' (o + 1) := fun d' => by
    by_cases e : pat S (8 * p.size + 8) d' (o + 1) = .out
    · exact Or.inl e
    · exact Or.inr (pat_more e k)
  have hsh := (read_shift hS (8 * p.size + 8)).1 (d + 1) 0
  rw [Nat.zero_add] at hsh
  refine ⟨fun hq => ?_, fun hq => ?_⟩
  · have e1 := a1 (d + 1) hq
    simp only at e1
    rw [e1] at hsh
    rw [group, if_neg (by omega)]
    rcases hm (d + 1) with e | e
    · rw [hsh] at e; cases e
    · rw [e, hsh]
      simp only [Rs.sh]
      rw [if_neg (by omega)]
      congr 1
      omega
  · obtain ⟨a, e1⟩ := a2 (d + 1) (by omega) hq
    simp only at e1
    rw [e1] at hsh
    rw [group, if_neg (by omega)]
    rcases hm (d + 1) with e | e
    · rw [hsh] at e; cases e
    · rw [e, hsh]
      exact ⟨_, rfl⟩
/-! ### faults' numbers -/
def Code (e : Nat) : Prop := (40 ≤ e ∧ e ≤ 48) ∨ e = 30
theorem read_code (s : ByteArray) (n : Nat) : (∀ d i a e, pat s n d i = .bad a e → Code e) ∧ (∀ d acc i a e, patLoop s n d acc i = .bad a e → Code e) ∧ (∀ d i a e, alt s n d i = .bad a e → Code e) ∧ (∀ d acc i a e, altLoop s n d acc i = .bad a e → Code e) ∧ (∀ d i a e, piece s n d i = .bad a e → Code e) ∧ (∀ d i a e, atom s n d i = .bad a e → Code e) ∧ (∀ d i a e, group s n d i = .bad a e → Code e) := by
  induction n with
  | zero => refine ⟨?_, ?_, ?_, ?_, ?_, ?_, ?_⟩ <;> intros <;> simp_all [pat, patLoop, alt, altLoop, piece, atom, group]
  | succ n ih =>
    obtain ⟨i1, i2, i3, i4, i5, i6, i7⟩ := ih
    refine ⟨fun d i a e h => ?_, fun d acc i a e h => ?_, fun d i a e h => ?_, fun d acc i a e h => ?_, fun d i a e h => ?_, fun d i a e h => ?_, fun d i a e h => ?_⟩
    · rw [pat] at h
      split at h
      · exact i2 _ _ _ _ _ h
      · rename_i hc; cases h; exact i3 _ _ _ _ hc
      · cases h
    · rw [patLoop] at h
      split at h
      · split at h
        · exact i2 _ _ _ _ _ h
        · rename_i hc; cases h; exact i3 _ _ _ _ hc
        · cases h
      · cases h
    · rw [alt] at h
      exact i4 _ _ _ _ _ h
    · rw [altLoop] at h
      split at h
      · split at h
        · exact i4 _ _ _ _ _ h
        · rename_i hc; cases h; exact i5 _ _ _ _ hc
        · cases h
      · cases h
    · rw [piece] at h
      split at h
      · cases h
      · split at h
        · cases h
        · split at h
          · have := repeated_bad h; unfold Code; omega
          · rename_i hc; cases h; exact i6 _ _ _ _ hc
          · cases h
    · rw [atom] at h
      split at h
      · cases h; unfold Code; omega
      · split at h
        · exact i7 _ _ _ _ h
        · split at h
          · split at h
            · cases h
            · rename_i hc; cases h; have := setOf_bad hc; unfold Code; omega
            · cases h
          · split at h
            · cases h
            · split at h
              · split at h
                · cases h; unfold Code; omega
                · cases h
              · cases h
    · rw [group] at h
      split at h
      · cases h; unfold Code; omega
      · split at h
        · split at h
          · cases h; unfold Code; omega
          · cases h
        · rename_i hc; cases h; exact i1 _ _ _ _ hc
        · cases h
/-! ### what Parse tells -/
theorem indexByte_le' (l : List UInt8) (c : UInt8) : Go.Lib.indexByte l c ≤ l.length := by
  induction l with
  | nil => simp [Go.Lib.indexByte]
  | cons b l ih =>
    unfold Go.Lib.indexByte
    simp only [List.length_cons]
    split
    · omega
    · split <;> omega
theorem parse_bad {p : ByteArray} {a e : Nat} (h : parseOf p = .bad a e) : a ≤ p.size ∧ Code e ∧ (p.size ≤ 1024 ∨ (e = 40 ∧ a = 1024)) := by
  unfold parseOf at h
  split at h
  · cases h; exact ⟨by omega, by unfold Code; omega, by omega⟩
  · split at h
    · cases h
      have h1 := indexByte_le' p.data.toList 10
      have hl : p.data.toList.length = p.size := by simp
      refine ⟨by unfold newlineAt; omega, by unfold Code; omega, by omega⟩
    · refine ⟨?_, ?_, by omega⟩
      · unfold wholeOf at h
        have hr := (read_at p (8 * p.size + 8)).1 0 0 (Nat.zero_le _)
        split at h
        · rename_i t j hc
          have hj := hr.1 _ _ hc
          split at h
          · split at h
            · cases h; omega
            · cases h
          · cases h; omega
        · rename_i a' e' hc
          cases h
          exact hr.2 _ _ hc
        · cases h
      · unfold wholeOf at h
        split at h
        · split at h
          · split at h
            · cases h; unfold Code; omega
            · cases h
          · cases h; unfold Code; omega
        · rename_i a' e' hc
          cases h
          exact (read_code p _).1 _ _ _ _ hc
        · cases h
theorem parse_ok {p : ByteArray} {t : Tr} {j : Nat} (h : parseOf p = .ok t j) : p.size ≤ 1024 ∧ (∀ i, byt p i ≠ 10) ∧ patOf p = .ok t p.size ∧ placesOf (up t) ≤ 2048 ∧ Good 1025 t ∧ newlineAt p < 0 := by
  unfold parseOf at h
  split at h
  · cases h
  · split at h
    · cases h
    · rename_i h1 h2
      have hnl := no_newline h2
      unfold wholeOf at h
      split at h
      · rename_i t' j' hc
        split at h
        · rename_i hj
          split at h
          · cases h
          · cases h
            subst hj
            exact ⟨by omega, hnl, hc, by omega, ((read_good p hnl _).1 _ _ _ _ hc).mono (by omega), by omega⟩
        · cases h
      · cases h
      · cases h
theorem parse_out {p : ByteArray} : parseOf p ≠ .out := by
  unfold parseOf
  split
  · simp
  · split
    · simp
    · unfold wholeOf
      have := patOf_out p
      split
      · split
        · split <;> simp
        · simp
      · simp
      · rename_i hc; exact absurd hc this
/-- a pattern without a newline, parsed by its reading -/
theorem newline_none {p : ByteArray} (h : ∀ i, byt p i ≠ 10) : newlineAt p < 0 := by
  by_cases e : newlineAt p < 0
  · exact e
  · exfalso
    obtain ⟨o, ho⟩ : ∃ o : Nat, Go.Lib.indexByte p.data.toList 10 = o := ⟨(newlineAt p).toNat, by unfold newlineAt at e ⊢; omega⟩
    have h1 := (Go.Lib.indexByte_some ho).1
    have h2 := h o
    rw [byt_list, List.getD_eq_getElem?_getD, h1] at h2
    exact h2 rfl
theorem parse_of {p : ByteArray} (hs : p.size ≤ 1024) (hn : ∀ i, byt p i ≠ 10) : parseOf p = wholeOf p := by
  unfold parseOf
  rw [if_neg (by omega), if_neg (by have := newline_none hn; omega)]
theorem whole_ok {p : ByteArray} {t : Tr} (h : patOf p = .ok t p.size) : wholeOf p = if 2048 < placesOf (up t) then .bad 0 48 else .ok t p.size := by
  unfold wholeOf
  rw [h]
  simp
theorem whole_bad {p : ByteArray} {a e : Nat} (h : patOf p = .bad a e) : wholeOf p = .bad a e := by
  unfold wholeOf
  rw [h]
/-- a pattern that is one group -/
theorem pat_group {S : ByteArray} {n : Nat} (h40 : byt S 0 = 40) (hz : 0 < S.size) : (∀ t, group S n 0 0 = .ok t S.size → pat S (n + 6) 0 0 = .ok t S.size) ∧ (∀ a e, group S n 0 0 = .bad a e → pat S (n + 6) 0 0 = .bad a e) := by
  have hgo : (decide (0 < S.size) && !(sees S 0 124) && !(sees S 0 41)) = true := by simp [sees, h40, hz]
  have hend : ∀ b, sees S S.size b = false := fun b => by simp [sees]
  have hp : ∀ r, group S n 0 0 = r → piece S (n + 2) 0 0 = (match r with
    | .ok t j => repeated S t j
    | .bad a e => .bad a e
    | .out => .out) := fun r hr => by
    rw [piece, if_neg (by omega), if_neg (by omega), atom, if_neg (by rw [h40]; decide), if_pos h40, hr]
    cases r <;> rfl
  refine ⟨fun t hg => ?_, fun a e hg => ?_⟩
  · have h1 := hp _ hg
    have h2 : repeated S t S.size = .ok t S.size := by
      unfold repeated
      simp [hend]
    simp only at h1
    rw [h2] at h1
    have hm := ((read_more S (n + 2)).2.2.2.2.1 0 0 (by rw [h1]; simp)).trans h1
    rw [pat, alt, altLoop, if_pos hgo, hm]
    simp only
    rw [altLoop, if_neg (by simp)]
    simp only
    rw [patLoop, if_neg (by rw [hend]; simp)]
    rfl
  · have h1 := hp _ hg
    simp only at h1
    have hm := ((read_more S (n + 2)).2.2.2.2.1 0 0 (by rw [h1]; simp)).trans h1
    rw [pat, alt, altLoop, if_pos hgo, hm]
theorem brackets {p : ByteArray} {t : Tr} {j : Nat} (h : parseOf p = .ok t j) (hs : p.size ≤ 1022) : ∃ q b : Nat, skim p p.size ⟨0, 0, 0, 0⟩ = ⟨p.size, 0, q, b⟩ ∧ (q ≤ 63 → parseOf (⟨#[40]⟩ ++ p ++ ⟨#[41]⟩) = .ok t (p.size + 2)) ∧ (64 ≤ q → ∃ a, parseOf (⟨#[40]⟩ ++ p ++ ⟨#[41]⟩) = .bad a 47) := by
  obtain ⟨h1, hnl, hpat, hpl, hg, hn0⟩ := parse_ok h
  obtain ⟨q, b, hk, _, hq, hD, _⟩ := read_bars hpat
  obtain ⟨S, hS⟩ : ∃ S, S = (⟨#[40]⟩ ++ p ++ ⟨#[41]⟩ : ByteArray) := ⟨_, rfl⟩
  have hS2 : S = ⟨#[40]⟩ ++ (p ++ (⟨#[41]⟩ ++ ByteArray.empty)) := by rw [hS, ByteArray.append_empty, ByteArray.append_assoc]
  have hsh : Sh (p ++ (⟨#[41]⟩ ++ ByteArray.empty)) S (0 + 1) := by rw [hS2]; exact sh_app _ _
  have hz : S.size = p.size + 2 := by rw [hS, ByteArray.size_append, ByteArray.size_append, size_one, size_one]; omega
  have hb : ∀ i, byt S i = if i = 0 then 40 else if i < p.size + 1 then byt p (i - 1) else if i = p.size + 1 then 41 else 0 := fun i => by
    rw [hS, byt_app, byt_app, byt_one, byt_one, ByteArray.size_append, size_one]
    by_cases e : i = 0
    · subst e; simp
    · by_cases e2 : i < p.size + 1
      · rw [if_pos (by omega), if_neg (by omega), if_neg e, if_pos e2]
      · rw [if_neg (by omega), if_neg e, if_neg e2]
        by_cases e3 : i = p.size + 1
        · rw [if_pos (by omega), if_pos e3]; rfl
        · rw [if_neg (by omega), if_neg e3]
  have hSn : ∀ i, byt S i ≠ 10 := fun i => by
    rw [hb]
    split
    · decide
    · split
      · exact hnl _
      · split <;> decide
  have hG := group_in hD hsh (8 * p.size + 17) 0 (by omega) (by omega)
  have hP := pat_group (S := S) (n := 8 * p.size + 17 + 1) (by rw [hb]; rfl) (by omega)
  have hf : pat S (8 * p.size + 17 + 1 + 6) 0 0 = patOf S := by unfold patOf; rw [show 8 * S.size + 8 = 8 * p.size + 17 + 1 + 6 by omega]
  rw [← hS]
  refine ⟨q, b, hk, fun hq2 => ?_, fun hq2 => ?_⟩
  · have h2 := hP.1 t ((hG.1 (by omega)).trans (by congr 1; omega))
    rw [hf] at h2
    rw [parse_of (by omega) hSn, whole_ok h2, if_neg (by omega), hz]
  · obtain ⟨a, ha⟩ := hG.2 (by omega)
    have h2 := hP.2 a 47 ha
    rw [hf] at h2
    exact ⟨a, by rw [parse_of (by omega) hSn, whole_bad h2]⟩
theorem good_plc {N : Nat} {t : Tr} (h : Good N t) : (plc (up t)).2 = true := by
  have key : ∀ (ts : List Tn) (n : Nat), (∀ t ∈ ts, (plc t).2 = true) → ∃ m, plcs ts n = some m := fun ts => by
    induction ts with
    | nil => intro n _; exact ⟨n, by rw [plcs]⟩
    | cons t ts ih =>
      intro n hh
      rw [plcs, if_pos (hh t (by simp))]
      exact ih _ (fun u hu => hh u (by simp [hu]))
  have fin : ∀ (k : Int) (s : Oct.S) (ts : List Tn) (mn mx : Int), shapedT k s ts.length mn mx = true → (∀ t ∈ ts, (plc t).2 = true) → (plc (.mk k s ts mn mx)).2 = true := fun k s ts mn mx hsh hh => by
    obtain ⟨m, hm⟩ := key ts 0 hh
    rw [plc, if_pos hsh, hm]
  have hno : noSet Oct.none = true := by unfold noSet; rw [show Oct.none = fun _ => false from rfl]; simp [Oct.word_none]
  induction h with
  | leaf k hk =>
    rw [up_mk]
    refine fin _ _ _ _ _ ?_ (by simp)
    unfold shapedT
    rcases hk with rfl | rfl | rfl <;> simp [hno, plainT]
  | set s h =>
    rw [up_mk]
    refine fin _ _ _ _ _ ?_ (by simp)
    unfold shapedT
    simp [h, plainT]
  | many k hk subs h2 hN hs ih =>
    rw [up_mk]
    refine fin _ _ _ _ _ ?_ (fun t ht => ?_)
    · unfold shapedT
      rcases hk with rfl | rfl <;> simp [hno, plainT, h2]
    · obtain ⟨u, hu, rfl⟩ := List.mem_map.1 ht
      exact ih u hu
  | times t l m hc ht ih =>
    rw [up_mk]
    refine fin _ _ _ _ _ ?_ (fun u hu => ?_)
    · unfold shapedT
      simp [hno, hc]
    · simp at hu
      subst hu
      exact ih
end Go.Proofs.Ytjmbimgofceanaa

/- ere.Parse, as the statements of layer 7 call it; the machine of what is read. -/
namespace Go.Proofs.Ytjmbimgofceanaa
open Go.RowKit

theorem NodeAt.inA {X : Nat → Prop} {w : World} {t : Tr} {x : Nd} (h : NodeAt X w t x) {N : Nat} (h1 : 1 ≤ N) (hN : N ≤ 1000000) : Good N t → InAt w (up t) x := by
  induction h with
  | mk k s subs mn mx a n c vs hn hl hr hs ih =>
    intro hg
    obtain ⟨g1, g2⟩ := hg.subs h1
    rw [up_mk]
    refine .mk k s (subs.map up) mn mx a n c vs (by simp [hn]) hl (by omega) (hr.keep (fun _ _ _ => trivial) (fun _ _ _ => rfl)) (fun i t v ht hv => ?_)
    rw [List.getElem?_map] at ht
    cases hsi : subs[i]? with
    | none => rw [hsi] at ht; cases ht
    | some u =>
      rw [hsi] at ht
      cases ht
      exact ih i u v hsi hv (g2 u (List.mem_of_getElem? hsi))
/-- what a pattern is read as: its tree and its error -/
def readT (s : ByteArray) : Tn × Nat := match parseOf s with
  | .ok t _ => (up t, 0)
  | .bad _ c => (.mk 0 Oct.none [] 0 0, c)
  | .out => (.mk 0 Oct.none [] 0 0, 0)
theorem read_bad {s : ByteArray} {i c : Nat} (h : parseOf s = .bad i c) : c ≠ 0 := by
  have h1 := (parse_bad h).2.1
  unfold Code at h1
  omega
theorem parse_tree (s : ByteArray) (w : World) (gm : GM w) : Calls Try.prog 9 #[.string s] w fun e w' => Below w.heap.size w w' ∧ ∃ (x : Nd) (a : Int), e = .returned (.tuple #[x.val, .int .i64 a, .int .i64 ((readT s).2 : Nat)]) ∧ InAt w' (readT s).1 x := by
  refine (Parse_any s w gm).mono ?_
  intro e w' h
  unfold ParsePost at h
  obtain ⟨hb, h⟩ := h
  refine ⟨hb, ?_⟩
  unfold readT
  cases hc : parseOf s with
  | out => rw [hc] at h; exact h.elim
  | bad i c =>
    rw [hc] at h
    exact ⟨zeroNd, i, h, .mk 0 Oct.none [] 0 0 none 0 0 [] rfl rfl (by decide) (Or.inl rfl) (fun i t v h => by simp at h)⟩
  | ok t j =>
    rw [hc] at h
    obtain ⟨x, he, hx⟩ := h
    exact ⟨x, 0, he, hx.inA (N := 1025) (by decide) (by decide) (parse_ok hc).2.2.2.2.1⟩
/-- what is read without a fault is a tree of at most MaxPlaces places -/
theorem readT_good {s : ByteArray} (h : (readT s).2 = 0) : (plc (readT s).1).2 = true ∧ ¬ 2048 < placesOf (readT s).1 := by
  unfold readT at h ⊢
  cases hc : parseOf s with
  | ok t j =>
    obtain ⟨_, _, _, h4, h5, _⟩ := parse_ok hc
    exact ⟨good_plc h5, by simp only; omega⟩
  | bad i c => rw [hc] at h; exact absurd h (read_bad hc)
  | out => exact absurd hc parse_out
end Go.Proofs.Ytjmbimgofceanaa

/- What the program's own functions owe. -/
namespace Go.Proofs.Ytjmbimgofceanaa
open Go.RowKit

/-- WHAT Build LEAVES. -/
def BuildPost (w : World) (t : Tn) (rule : Int) (e : Ending) (w' : World) : Prop := Below w.heap.size w w' ∧ ∃ y : Nf, e = .returned (.tuple #[y.val, .int .i64 ((buildOf t rule).2 : Nat)]) ∧ MaAt (fun b => w.heap.size ≤ b ∧ ¬ TyB w' 38 b) w' (buildOf t rule).1 y
/-- a refusal -/
theorem build_no {w u : World} {t : Tn} {rule : Int} {R k : Nat} (hb : Below w.heap.size w u) (hR : w.heap.size ≤ R) (hk : buildOf t rule = (zeroMa, k)) : BuildPost w t rule (.returned (.tuple #[Nf.val ⟨0, none, 0, 0, none, 0, 0⟩, .int .i64 (k : Nat)])) (put3 u R ⟨0, none, 0, 0, none, 0, 0⟩) := by
  unfold BuildPost
  rw [hk]
  exact ⟨below_put3 hb hR _, _, rfl, zero_maAt _ _⟩
/-- WHAT Union LEAVES. -/
def UnionPost (w : World) (Ms : List Ma) (e : Ending) (w' : World) : Prop := Below w.heap.size w w' ∧ ∃ y : Nf, e = .returned (.tuple #[y.val, .int .i64 ((unionOf Ms).2 : Nat)]) ∧ MaAt (fun b => w.heap.size ≤ b ∧ ¬ TyB w' 38 b) w' (unionOf Ms).1 y
theorem union_no {w u : World} {Ms : List Ma} {R : Nat} (hb : Below w.heap.size w u) (hR : w.heap.size ≤ R) (hk : Ms.all rightOf = false) : UnionPost w Ms (.returned (.tuple #[Nf.val ⟨0, none, 0, 0, none, 0, 0⟩, .int .i64 ((70 : Nat) : Nat)])) (put3 u R ⟨0, none, 0, 0, none, 0, 0⟩) := by
  unfold UnionPost unionOf
  rw [hk]
  exact ⟨below_put3 hb hR _, _, rfl, zero_maAt _ _⟩
theorem union_yes {w u : World} {O R : Nat} {x : Nf} {o : Ma} {Ms : List Ma} (h : Un w O R u x o) (hk : Ms.all rightOf = true) (ho : unions Ms ⟨1, [], [0]⟩ = o) : UnionPost w Ms (.returned (.tuple #[x.val, .int .i64 ((0 : Nat) : Nat)])) (put3 u R x) ∧ NFB (put3 u R x) R x := by
  refine ⟨?_, h.res.put3 x⟩
  unfold UnionPost unionOf
  rw [hk, if_pos rfl, ho]
  have hk2 : ∀ k, k ≠ R → (put3 u R x).heap[k]? = u.heap[k]? := fun k hk => heap_put3 u R x k hk
  have h1 := (h.e.keep (w' := put3 u R x) (fun b _ _ hb => hk2 b (fun e => absurd (TyB.ne hb (e ▸ h.res.ty)) (by decide))))
  have h2 := (h.r.keep (w' := put3 u R x) (fun b _ _ hb => hk2 b (fun e => absurd (TyB.ne hb (e ▸ h.res.ty)) (by decide))))
  exact ⟨below_put3 h.low h.hR _, x, rfl, h.s, h1.at.1, h2.at.1, h1.at2.keep (fun b hb _ => ⟨hb.1, fun h => absurd (TyB.ne hb.2 h) (by decide)⟩) (fun _ _ _ => rfl), h2.at2.keep (fun b hb _ => ⟨hb.1, fun h => absurd (TyB.ne hb.2 h) (by decide)⟩) (fun _ _ _ => rfl)⟩
/-- WHAT THE PROGRAM's OWN FUNCTIONS OWE. -/
def BuildOK : Prop := ∀ (t : Tn) (x : Nd) (w : World) (rule : Int), InAt w t x → Calls Try.prog 11 #[x.val, .int .i64 rule] w (BuildPost w t rule)
def UnionOK : Prop := ∀ (Ms : List Ma) (xs : List Nf) (a : Option Addr) (c : Nat) (w : World), ListAt w a Ms xs → Ms.length ≤ c → c ≤ maxLen → Ms.length ≤ 10000000 → (unions Ms ⟨1, [], [0]⟩).es.length ≤ 10000000 → (unions Ms ⟨1, [], [0]⟩).rs.length ≤ 10000000 → Calls Try.prog 21 #[.slice a Ms.length c] w (UnionPost w Ms)
def RightOK : Prop := ∀ (M : Ma) (x : Nf) (w : World), MaAt (fun _ => True) w M x → M.es.length ≤ 10000000 → M.rs.length ≤ 10000000 → Calls Try.prog 12 #[x.val] w fun e w' => e = .returned (.bool (rightOf M)) ∧ Below w.heap.size w w'
def KnownOK : Prop := ∀ w : World, Calls Try.prog 7 #[] w fun e w' => e = .returned (.bool true) ∧ Below w.heap.size w w'
end Go.Proofs.Ytjmbimgofceanaa

/- Unions of machines that fit: plain. -/
namespace Go.Proofs.Ytjmbimgofceanaa

theorem orFrom_lt : ∀ (bs : List Bool) (xs : List Nat) (r : Nat), r < 4294967296 → (∀ x ∈ xs, x < 4294967296) → orFrom r bs xs < 4294967296
  | [], _, r, hr, _ => by rw [orFrom]; exact hr; intros; simp_all
  | _ :: _, [], r, hr, _ => by rw [orFrom]; exact hr; intros; simp_all
  | b :: bs, x :: xs, r, hr, hx => by
    rw [orFrom]
    refine orFrom_lt bs xs _ ?_ (fun y hy => hx y (by simp [hy]))
    split
    · exact or_lt32 hr (hx x (by simp))
    · exact hr
theorem walks_lt {M : Ma} {S : Nat} {line : ByteArray} {i : Nat} {cur : List Bool} {r R : Nat} (h : Walks M S line i cur r R) (hx : ∀ x ∈ M.rs, x < 4294967296) : r < 4294967296 → R < 4294967296 := by
  induction h with
  | last i cur cl r hi hc => exact fun hr => orFrom_lt _ _ _ hr hx
  | step i cur cl r R hi hc _ ih => exact fun hr => ih (orFrom_lt _ _ _ hr hx)
/-- a machine that the law gathers -/
structure Fine (line : ByteArray) (M : Ma) (R : Nat) : Prop where
  wk : Wk line M R
  rt : rightOf M = true
  es : M.es.length ≤ 4096
  rs : M.rs.length ≤ 300
  u : ∀ r ∈ M.rs, r < 4294967296
theorem Fine.lt {line : ByteArray} {M : Ma} {R : Nat} (h : Fine line M R) : R < 4294967296 := walks_lt h.wk.w h.u (by decide)
theorem mach_words (t : Tn) {k : Nat} (hk : k ≤ 31) : ∀ r ∈ (mach t k).rs, r < 4294967296 := by
  intro r hr
  have h2 : 2 ^ k < 4294967296 := Nat.lt_of_le_of_lt (Nat.pow_le_pow_right (by decide) hk) (by decide)
  rcases List.mem_or_eq_of_mem_set hr with h | h
  · rw [(List.mem_replicate.1 h).2]; decide
  · rw [h]; exact h2
theorem mach_rs (t : Tn) (k : Nat) : ((mach t k).rs.length : Int) = (mach t k).S := by
  unfold mach
  simp
theorem right_inR {M : Ma} (h : rightOf M = true) : InR M.es M.rs.length := by
  obtain ⟨h1, h2, h3⟩ := right_parts h
  intro y hy
  have := h3 y hy
  omega
theorem right_iff (M : Ma) : rightOf M = true ↔ 1 ≤ M.S ∧ (M.rs.length : Int) = M.S ∧ ∀ e ∈ M.es, okE M.S e = true := by
  unfold rightOf
  simp only [Bool.and_eq_true, decide_eq_true_eq, List.all_eq_true, and_assoc]
theorem okE_shift {S : Int} {e : Eg} (h : okE S e = true) {a T : Int} (ha : 0 ≤ a) (hT : S + a ≤ T) : okE T (shiftE a e) = true := by
  rw [okE_iff] at h ⊢
  unfold shiftE
  refine ⟨h.1, h.2.1, ?_, ?_, ?_, ?_, h.2.2.2.2.2.2⟩ <;> simp only <;> omega
theorem right_add {o M : Ma} (h : rightOf o = true) (h2 : rightOf M = true) : rightOf (addM o M) = true := by
  rw [right_iff] at h h2 ⊢
  obtain ⟨a1, a2, a3⟩ := h
  obtain ⟨b1, b2, b3⟩ := h2
  unfold addM
  refine ⟨by simp only; omega, by simp only [List.length_append]; omega, fun e he => ?_⟩
  simp only [List.mem_append, List.mem_cons, List.not_mem_nil, or_false, List.mem_map] at he
  rcases he with (he | he) | ⟨y, hy, rfl⟩
  · exact okE_mono (a3 e he) (by simp only; omega)
  · subst he
    rw [okE_iff]
    refine ⟨by simp, by simp, by simp, by simp; omega, by simp; omega, by simp; omega, Or.inr noSet_n⟩
  · exact okE_shift (b3 y hy) (by omega) (by simp only; omega)
theorem right_unions : ∀ (Ms : List Ma) (o : Ma), rightOf o = true → (∀ M ∈ Ms, rightOf M = true) → rightOf (unions Ms o) = true
  | [], o, h, _ => h
  | M :: Ms, o, h, h2 => right_unions Ms _ (right_add h (h2 M (by simp))) (fun N hN => h2 N (by simp [hN]))
theorem right_one : rightOf ⟨1, [], [0]⟩ = true := by rw [right_iff]; exact ⟨by simp, by simp, fun e he => by cases he⟩
def sumR : List Ma → Nat
  | [] => 0
  | M :: Ms => M.rs.length + sumR Ms
theorem sumR_append : ∀ (a b : List Ma), sumR (a ++ b) = sumR a + sumR b
  | [], b => by simp [sumR]
  | M :: a, b => by rw [List.cons_append, sumR, sumR, sumR_append a b]; omega
theorem sumR_reverse : ∀ a : List Ma, sumR a.reverse = sumR a
  | [] => rfl
  | M :: a => by rw [List.reverse_cons, sumR_append, sumR_reverse a, sumR, sumR, sumR]; omega
theorem sumR_le : ∀ (Ms : List Ma) (k : Nat), (∀ M ∈ Ms, M.rs.length ≤ k) → sumR Ms ≤ Ms.length * k
  | [], k, _ => by simp [sumR]
  | M :: Ms, k, h => by
    have h1 := h M (by simp)
    have h2 := sumR_le Ms k (fun N hN => h N (by simp [hN]))
    rw [sumR, List.length_cons, Nat.succ_mul]
    omega
theorem unions_rs : ∀ (Ms : List Ma) (o : Ma), (unions Ms o).rs.length = o.rs.length + sumR Ms
  | [], o => by rw [unions, sumR]; omega
  | M :: Ms, o => by
    rw [unions, unions_rs Ms, sumR]
    simp only [addM, List.length_append]
    omega
theorem unions_es : ∀ (Ms : List Ma) (o : Ma) (k : Nat), (∀ M ∈ Ms, M.es.length ≤ k) → (unions Ms o).es.length ≤ o.es.length + Ms.length * (k + 1)
  | [], o, k, _ => by rw [unions]; simp
  | M :: Ms, o, k, h => by
    have h1 := h M (by simp)
    have h2 := unions_es Ms (addM o M) k (fun N hN => h N (by simp [hN]))
    rw [unions, List.length_cons, Nat.succ_mul]
    simp only [addM, List.length_append, List.length_cons, List.length_nil, List.length_map] at h2
    simp only [addM] at h2 ⊢
    omega
theorem unions_words : ∀ (Ms : List Ma) (o : Ma), (∀ r ∈ o.rs, r < 4294967296) → (∀ M ∈ Ms, ∀ r ∈ M.rs, r < 4294967296) → ∀ r ∈ (unions Ms o).rs, r < 4294967296
  | [], o, h, _ => h
  | M :: Ms, o, h, h2 => unions_words Ms _ (fun r hr => by
      simp only [addM, List.mem_append] at hr
      rcases hr with hr | hr
      · exact h r hr
      · exact h2 M (by simp) r hr) (fun N hN => h2 N (by simp [hN]))
/-- what a union of gathered machines is -/
structure FineU (line : ByteArray) (U : Ma) (n R : Nat) : Prop where
  wk : Wk line U R
  rt : rightOf U = true
  es : U.es.length ≤ 10000000
  rs : U.rs.length = n
  s : U.S = (n : Nat)
  one : 1 ≤ n
  le : n ≤ 10000000
  u : ∀ r ∈ U.rs, r < 4294967296
def Fines (line : ByteArray) (Ms : List Ma) (Rs : List Nat) : Prop := Ms.length = Rs.length ∧ ∀ (i : Nat) (M : Ma) (R : Nat), Ms[i]? = some M → Rs[i]? = some R → Fine line M R
theorem Fines.mem {line : ByteArray} {Ms : List Ma} {Rs : List Nat} (h : Fines line Ms Rs) : ∀ M ∈ Ms, ∃ R, Fine line M R := by
  intro M hM
  obtain ⟨i, hi, rfl⟩ := List.mem_iff_getElem.1 hM
  exact ⟨Rs[i]'(by rw [← h.1]; exact hi), h.2 i _ _ (List.getElem?_eq_getElem hi) (List.getElem?_eq_getElem (by rw [← h.1]; exact hi))⟩
theorem Fines.snoc {line : ByteArray} {Ms : List Ma} {Rs : List Nat} (h : Fines line Ms Rs) {M : Ma} {R : Nat} (hf : Fine line M R) : Fines line (Ms ++ [M]) (Rs ++ [R]) := by
  refine ⟨by simp [h.1], fun i M' R' hM hR => ?_⟩
  by_cases hlt : i < Ms.length
  · rw [List.getElem?_append_left hlt] at hM
    rw [List.getElem?_append_left (by rw [← h.1]; exact hlt)] at hR
    exact h.2 i M' R' hM hR
  · rw [List.getElem?_append_right (by omega)] at hM
    rw [List.getElem?_append_right (by rw [← h.1]; omega), ← h.1] at hR
    have e0 : i - Ms.length = 0 := by
      have := (List.getElem?_eq_some_iff.1 hM).1
      simp at this
      omega
    rw [e0] at hM hR
    simp at hM hR
    subst hM hR
    exact hf
theorem Fines.rev {line : ByteArray} {Ms : List Ma} {Rs : List Nat} (h : Fines line Ms Rs) : Fines line Ms.reverse Rs.reverse := by
  refine ⟨by simp [h.1], fun i M R hM hR => ?_⟩
  have h1 := (List.getElem?_eq_some_iff.1 hM).1
  have h2 := (List.getElem?_eq_some_iff.1 hR).1
  simp only [List.length_reverse] at h1 h2
  rw [List.getElem?_reverse h1] at hM
  rw [List.getElem?_reverse h2, ← h.1] at hR
  exact h.2 _ M R hM hR
theorem Fines.union {line : ByteArray} {Ms : List Ma} {Rs : List Nat} (h : Fines line Ms Rs) (hn : Ms.length ≤ 12) : FineU line (unions Ms ⟨1, [], [0]⟩) (1 + sumR Ms) (Rs.foldl (· ||| ·) 0) := by
  have hm := h.mem
  have hrt : rightOf (unions Ms ⟨1, [], [0]⟩) = true := right_unions Ms _ right_one (fun M hM => by obtain ⟨R, hR⟩ := hm M hM; exact hR.rt)
  have hrs := unions_rs Ms ⟨1, [], [0]⟩
  have hle := sumR_le Ms 300 (fun M hM => by obtain ⟨R, hR⟩ := hm M hM; exact hR.rs)
  have hes := unions_es Ms ⟨1, [], [0]⟩ 4096 (fun M hM => by obtain ⟨R, hR⟩ := hm M hM; exact hR.es)
  simp only [List.length_nil, List.length_cons] at hrs hes
  have h12 : Ms.length * 300 ≤ 12 * 300 := Nat.mul_le_mul_right _ hn
  have h13 : Ms.length * 4097 ≤ 12 * 4097 := Nat.mul_le_mul_right _ hn
  obtain ⟨_, g2, _⟩ := right_parts hrt
  exact ⟨Wk.unions Ms Rs _ 0 h.1 (fun i M R hM hR => (h.2 i M R hM hR).wk) (wk_one line), hrt, by omega, by omega, by omega, by omega, by omega, unions_words Ms _ (fun r hr => by simp at hr; subst hr; decide) (fun M hM => by obtain ⟨R, hR⟩ := hm M hM; exact hR.u)⟩
/-- a pattern's machine is one of them -/
theorem fine_mach {t : Tn} (h : (plc t).2 = true) (hp : ¬ 2048 < placesOf t) {k : Nat} (hk : k ≤ 31) (h3 : placesOf t ≤ 300) {line : ByteArray} {R : Nat} (hw : Walks (mach t k) (placesOf t) line 0 (List.replicate (placesOf t) false) 0 R) : Fine line (mach t k) R := by
  have hrt := mach_right h k
  have hs := mach_states h hp k
  obtain ⟨g1, g2, _⟩ := right_parts hrt
  have hl : (mach t k).rs.length = placesOf t := by omega
  refine ⟨⟨by omega, by omega, right_inR hrt, by rw [hl]; exact hw⟩, hrt, ?_, by omega, mach_words t hk⟩
  exact (lay_bounds h hp).2
theorem Walks.same {M : Ma} {n : Nat} {line : ByteArray} {R R' : Nat} (h : Wk line M R) (hn : M.rs.length = n) (h2 : Walks M n line 0 (List.replicate n false) 0 R') : R' = R := by
  subst hn
  exact (Walks.unique h2 h.w)
end Go.Proofs.Ytjmbimgofceanaa

/- heronlaw07's short. -/
namespace Go.Proofs.Ytjmbimgofceanaa
open Go.RowKit
attribute [local go_sem ↓] Go.wp_at_zero Go.wp_at_succ

set_option maxRecDepth 4000 in
theorem short_any (s : ByteArray) (w : World) : Calls Try.prog 8 #[.string s] w fun e w' => ∃ t : ByteArray, e = .returned (.string t) ∧ t.size ≤ 60 ∧ w' = w := by
  by_cases h : s.size ≤ 60
  · have h1 : min (s.size : Int) 60 = (s.size : Int) := by omega
    go_enter Try.func8, Try.ntmps8
    go_wp2
    go_ret
    refine ⟨_, rfl, ?_, rfl⟩
    exact h
  · have h1 : min (s.size : Int) 60 = 60 := by omega
    have h2 : ¬ (s.size : Int) ≤ 60 := by omega
    have h3 : (60 : Int) ≤ (s.size : Int) := by omega
    have h4 : 60 ≤ s.size := by omega
    go_enter Try.func8, Try.ntmps8
    go_wp2
    go_ret
    refine ⟨_, rfl, ?_, rfl⟩
    simp
    omega
end Go.Proofs.Ytjmbimgofceanaa
