/- A pattern in brackets: the same tree, one deeper. -/
import Derived.Test.YtlcnmfgmgiijpaaG30
import Derived.Test.YtlcnmfgmgiijpaaG28
namespace Go.Proofs.Ytlcnmfgmgiijpaa

theorem byt_app (a b : ByteArray) (i : Nat) : byt (a ++ b) i = if i < a.size then byt a i else byt b (i - a.size) := by
  have ha : a.data.toList.length = a.size := by simp
  rw [byt_list, byt_list, byt_list, ByteArray.data_append, Array.toList_append, List.getD_eq_getElem?_getD, List.getD_eq_getElem?_getD, List.getD_eq_getElem?_getD]
  by_cases h : i < a.size
  · rw [if_pos h, List.getElem?_append_left (by omega)]
  · rw [if_neg h, List.getElem?_append_right (by omega), ha]
theorem byt_one (c : UInt8) (i : Nat) : byt ⟨#[c]⟩ i = if i = 0 then c.toNat else 0 := by
  rw [byt_list]
  cases i with
  | zero => rfl
  | succ i => rw [if_neg (by omega)]; simp
theorem size_one (c : UInt8) : (⟨#[c]⟩ : ByteArray).size = 1 := rfl
theorem sh_app (a b : ByteArray) : Sh b (a ++ b) a.size := by
  refine ⟨fun i => ?_, by rw [ByteArray.size_append]; omega⟩
  rw [byt_app, if_neg (by omega), Nat.add_sub_cancel]
theorem stops_app (p b : ByteArray) (c : UInt8) (hc : c = 41 ∨ c = 124) : Stops p (p ++ (⟨#[c]⟩ ++ b)) := by
  refine ⟨⟨fun i hi => ?_, Nat.le_refl _, ?_⟩, Or.inr ?_⟩
  · rw [byt_app, if_pos hi]
  · rw [ByteArray.size_append]; omega
  · rw [byt_app, if_neg (by omega), Nat.sub_self, byt_app, if_pos (by rw [size_one]; omega), byt_one, if_pos rfl]
    rcases hc with rfl | rfl
    · exact Or.inl rfl
    · exact Or.inr rfl
theorem stops_self (p : ByteArray) : Stops p p := ⟨⟨fun _ _ => rfl, Nat.le_refl _, Nat.le_refl _⟩, Or.inl rfl⟩
theorem sk_bars {p : ByteArray} {q b : Nat} (h : Sk p 0 p.size q b) : skim p p.size ⟨0, 0, 0, 0⟩ = ⟨p.size, 0, q, b⟩ := by
  have h1 := (h 0 0 0 (by omega) (by omega)).ends (Nat.le_refl _) p.size (by simp)
  rw [h1]
  congr 1
  · omega
  · simp
/-- what a pattern that is read tells: how deep, how many '|' -/
theorem read_bars {p : ByteArray} {t : Tr} (hp : patOf p = .ok t p.size) : ∃ q b : Nat, skim p p.size ⟨0, 0, 0, 0⟩ = ⟨p.size, 0, q, b⟩ ∧ (b = 0 → alt p (8 * p.size + 7) 0 0 = .ok t p.size) ∧ q ≤ 64 ∧ (∀ s', Stops p s' → sees s' p.size 124 = false → Deep (fun d' => pat s' (8 * p.size + 8) d' 0) t p.size q) ∧ (b = 0 → ∀ s', Stops p s' → Deep (fun d' => alt s' (8 * p.size + 7) d' 0) t p.size q) := by
  obtain ⟨q, b, s1, s2, s3⟩ := (read_rise (stops_self p) (8 * p.size + 8)).1 0 0 t p.size hp (Nat.zero_le _)
  have hk := sk_bars s1
  have hq : q ≤ 64 := by
    have h1 := (s3 (Or.inr (by simp [sees]))).2 0 (by omega)
    by_cases e : q ≤ 64
    · exact e
    · obtain ⟨a, ha⟩ := h1 (by omega)
      have h2 : patOf p = .bad a 47 := ha
      rw [hp] at h2
      cases h2
  refine ⟨q, b, hk, s2, hq, fun s' hs hb => ?_, fun hb s' hs => ?_⟩
  · obtain ⟨q', b', t1, _, t3⟩ := (read_rise hs (8 * p.size + 8)).1 0 0 t p.size hp (Nat.zero_le _)
    have hk' := sk_bars t1
    rw [hk] at hk'
    have e : q = q' := by injection hk' with _ _ h3 _; omega
    rw [e]
    exact t3 (Or.inr hb)
  · obtain ⟨q', t1, t3⟩ := (read_rise hs (8 * p.size + 7)).2.2.1 0 0 t p.size (s2 hb) (Nat.zero_le _)
    have hk' := sk_bars t1
    rw [hk] at hk'
    have e : q = q' := by injection hk' with _ _ h3 _; omega
    rw [e]
    exact t3
/-- a group that holds it -/
theorem group_in {p B S : ByteArray} {o q : Nat} {t : Tr} (hD : ∀ s', Stops p s' → sees s' p.size 124 = false → Deep (fun d' => pat s' (8 * p.size + 8) d' 0) t p.size q) (hS : Sh (p ++ (⟨#[41]⟩ ++ B)) S (o + 1)) (n d : Nat) (hn : 8 * p.size + 8 ≤ n) (hd : d ≤ 63) :
    (d + 1 + q ≤ 64 → group S (n + 1) d o = .ok t (o + p.size + 2)) ∧ (64 < d + 1 + q → ∃ a, group S (n + 1) d o = .bad a 47) := by
  have hst := stops_app p B 41 (Or.inl rfl)
  have hb : byt (p ++ (⟨#[41]⟩ ++ B)) p.size = 41 := by
    rw [byt_app, if_neg (by omega), Nat.sub_self, byt_app, if_pos (by rw [size_one]; omega), byt_one, if_pos rfl]; rfl
  obtain ⟨a1, a2⟩ := hD _ hst (by unfold sees; simp [hb])
  have hsz : (p ++ (⟨#[41]⟩ ++ B)).size = p.size + 1 + B.size := by rw [ByteArray.size_append, ByteArray.size_append, size_one]; omega
  have hz := hS.z
  obtain ⟨k, rfl⟩ : ∃ k, n = 8 * p.size + 8 + k := ⟨n - (8 * p.size + 8), by omega⟩
  have hm : ∀ d', pat S (8 * p.size + 8) d' (o + 1) = .out ∨ pat S (8 * p.size + 8 + k) d' (o + 1) = pat S (8 * p.size + 8) d' (o + 1) := fun d' => by
    by_cases e : pat S (8 * p.size + 8) d' (o + 1) = .out
    · exact Or.inl e
    · exact Or.inr (pat_more e k)
  have hsh := (read_shift hS (8 * p.size + 8)).1 (d + 1) 0
  rw [Nat.zero_add] at hsh
  refine ⟨fun hq => ?_, fun hq => ?_⟩
  · have e1 := a1 (d + 1) hq
    simp only at e1
    rw [e1] at hsh
    rw [group, if_neg (by omega)]
    rcases hm (d + 1) with e | e
    · rw [hsh] at e; cases e
    · rw [e, hsh]
      simp only [Rs.sh]
      rw [if_neg (by omega)]
      congr 1
      omega
  · obtain ⟨a, e1⟩ := a2 (d + 1) (by omega) hq
    simp only at e1
    rw [e1] at hsh
    rw [group, if_neg (by omega)]
    rcases hm (d + 1) with e | e
    · rw [hsh] at e; cases e
    · rw [e, hsh]
      exact ⟨_, rfl⟩
/-! ### faults' numbers -/
def Code (e : Nat) : Prop := (40 ≤ e ∧ e ≤ 48) ∨ e = 30
theorem read_code (s : ByteArray) (n : Nat) : (∀ d i a e, pat s n d i = .bad a e → Code e) ∧ (∀ d acc i a e, patLoop s n d acc i = .bad a e → Code e) ∧ (∀ d i a e, alt s n d i = .bad a e → Code e) ∧ (∀ d acc i a e, altLoop s n d acc i = .bad a e → Code e) ∧ (∀ d i a e, piece s n d i = .bad a e → Code e) ∧ (∀ d i a e, atom s n d i = .bad a e → Code e) ∧ (∀ d i a e, group s n d i = .bad a e → Code e) := by
  induction n with
  | zero => refine ⟨?_, ?_, ?_, ?_, ?_, ?_, ?_⟩ <;> intros <;> simp_all [pat, patLoop, alt, altLoop, piece, atom, group]
  | succ n ih =>
    obtain ⟨i1, i2, i3, i4, i5, i6, i7⟩ := ih
    refine ⟨fun d i a e h => ?_, fun d acc i a e h => ?_, fun d i a e h => ?_, fun d acc i a e h => ?_, fun d i a e h => ?_, fun d i a e h => ?_, fun d i a e h => ?_⟩
    · rw [pat] at h
      split at h
      · exact i2 _ _ _ _ _ h
      · rename_i hc; cases h; exact i3 _ _ _ _ hc
      · cases h
    · rw [patLoop] at h
      split at h
      · split at h
        · exact i2 _ _ _ _ _ h
        · rename_i hc; cases h; exact i3 _ _ _ _ hc
        · cases h
      · cases h
    · rw [alt] at h
      exact i4 _ _ _ _ _ h
    · rw [altLoop] at h
      split at h
      · split at h
        · exact i4 _ _ _ _ _ h
        · rename_i hc; cases h; exact i5 _ _ _ _ hc
        · cases h
      · cases h
    · rw [piece] at h
      split at h
      · cases h
      · split at h
        · cases h
        · split at h
          · have := repeated_bad h; unfold Code; omega
          · rename_i hc; cases h; exact i6 _ _ _ _ hc
          · cases h
    · rw [atom] at h
      split at h
      · cases h; unfold Code; omega
      · split at h
        · exact i7 _ _ _ _ h
        · split at h
          · split at h
            · cases h
            · rename_i hc; cases h; have := setOf_bad hc; unfold Code; omega
            · cases h
          · split at h
            · cases h
            · split at h
              · split at h
                · cases h; unfold Code; omega
                · cases h
              · cases h
    · rw [group] at h
      split at h
      · cases h; unfold Code; omega
      · split at h
        · split at h
          · cases h; unfold Code; omega
          · cases h
        · rename_i hc; cases h; exact i1 _ _ _ _ hc
        · cases h
/-! ### what Parse tells -/
theorem indexByte_le' (l : List UInt8) (c : UInt8) : Go.Lib.indexByte l c ≤ l.length := by
  induction l with
  | nil => simp [Go.Lib.indexByte]
  | cons b l ih =>
    unfold Go.Lib.indexByte
    simp only [List.length_cons]
    split
    · omega
    · split <;> omega
theorem parse_bad {p : ByteArray} {a e : Nat} (h : parseOf p = .bad a e) : a ≤ p.size ∧ Code e ∧ (p.size ≤ 1024 ∨ (e = 40 ∧ a = 1024)) := by
  unfold parseOf at h
  split at h
  · cases h; exact ⟨by omega, by unfold Code; omega, by omega⟩
  · split at h
    · cases h
      have h1 := indexByte_le' p.data.toList 10
      have hl : p.data.toList.length = p.size := by simp
      refine ⟨by unfold newlineAt; omega, by unfold Code; omega, by omega⟩
    · refine ⟨?_, ?_, by omega⟩
      · unfold wholeOf at h
        have hr := (read_at p (8 * p.size + 8)).1 0 0 (Nat.zero_le _)
        split at h
        · rename_i t j hc
          have hj := hr.1 _ _ hc
          split at h
          · split at h
            · cases h; omega
            · cases h
          · cases h; omega
        · rename_i a' e' hc
          cases h
          exact hr.2 _ _ hc
        · cases h
      · unfold wholeOf at h
        split at h
        · split at h
          · split at h
            · cases h; unfold Code; omega
            · cases h
          · cases h; unfold Code; omega
        · rename_i a' e' hc
          cases h
          exact (read_code p _).1 _ _ _ _ hc
        · cases h
theorem parse_ok {p : ByteArray} {t : Tr} {j : Nat} (h : parseOf p = .ok t j) : p.size ≤ 1024 ∧ (∀ i, byt p i ≠ 10) ∧ patOf p = .ok t p.size ∧ placesOf (up t) ≤ 2048 ∧ Good 1025 t ∧ newlineAt p < 0 := by
  unfold parseOf at h
  split at h
  · cases h
  · split at h
    · cases h
    · rename_i h1 h2
      have hnl := no_newline h2
      unfold wholeOf at h
      split at h
      · rename_i t' j' hc
        split at h
        · rename_i hj
          split at h
          · cases h
          · cases h
            subst hj
            exact ⟨by omega, hnl, hc, by omega, ((read_good p hnl _).1 _ _ _ _ hc).mono (by omega), by omega⟩
        · cases h
      · cases h
      · cases h
theorem parse_out {p : ByteArray} : parseOf p ≠ .out := by
  unfold parseOf
  split
  · simp
  · split
    · simp
    · unfold wholeOf
      have := patOf_out p
      split
      · split
        · split <;> simp
        · simp
      · simp
      · rename_i hc; exact absurd hc this
/-- a pattern without a newline, parsed by its reading -/
theorem newline_none {p : ByteArray} (h : ∀ i, byt p i ≠ 10) : newlineAt p < 0 := by
  by_cases e : newlineAt p < 0
  · exact e
  · exfalso
    obtain ⟨o, ho⟩ : ∃ o : Nat, Go.Lib.indexByte p.data.toList 10 = o := ⟨(newlineAt p).toNat, by unfold newlineAt at e ⊢; omega⟩
    have h1 := (Go.Lib.indexByte_some ho).1
    have h2 := h o
    rw [byt_list, List.getD_eq_getElem?_getD, h1] at h2
    exact h2 rfl
theorem parse_of {p : ByteArray} (hs : p.size ≤ 1024) (hn : ∀ i, byt p i ≠ 10) : parseOf p = wholeOf p := by
  unfold parseOf
  rw [if_neg (by omega), if_neg (by have := newline_none hn; omega)]
theorem whole_ok {p : ByteArray} {t : Tr} (h : patOf p = .ok t p.size) : wholeOf p = if 2048 < placesOf (up t) then .bad 0 48 else .ok t p.size := by
  unfold wholeOf
  rw [h]
  simp
theorem whole_bad {p : ByteArray} {a e : Nat} (h : patOf p = .bad a e) : wholeOf p = .bad a e := by
  unfold wholeOf
  rw [h]
/-- a pattern that is one group -/
theorem pat_group {S : ByteArray} {n : Nat} (h40 : byt S 0 = 40) (hz : 0 < S.size) : (∀ t, group S n 0 0 = .ok t S.size → pat S (n + 6) 0 0 = .ok t S.size) ∧ (∀ a e, group S n 0 0 = .bad a e → pat S (n + 6) 0 0 = .bad a e) := by
  have hgo : (decide (0 < S.size) && !(sees S 0 124) && !(sees S 0 41)) = true := by simp [sees, h40, hz]
  have hend : ∀ b, sees S S.size b = false := fun b => by simp [sees]
  have hp : ∀ r, group S n 0 0 = r → piece S (n + 2) 0 0 = (match r with
    | .ok t j => repeated S t j
    | .bad a e => .bad a e
    | .out => .out) := fun r hr => by
    rw [piece, if_neg (by omega), if_neg (by omega), atom, if_neg (by rw [h40]; decide), if_pos h40, hr]
    cases r <;> rfl
  refine ⟨fun t hg => ?_, fun a e hg => ?_⟩
  · have h1 := hp _ hg
    have h2 : repeated S t S.size = .ok t S.size := by
      unfold repeated
      simp [hend]
    simp only at h1
    rw [h2] at h1
    have hm := ((read_more S (n + 2)).2.2.2.2.1 0 0 (by rw [h1]; simp)).trans h1
    rw [pat, alt, altLoop, if_pos hgo, hm]
    simp only
    rw [altLoop, if_neg (by simp)]
    simp only
    rw [patLoop, if_neg (by rw [hend]; simp)]
    rfl
  · have h1 := hp _ hg
    simp only at h1
    have hm := ((read_more S (n + 2)).2.2.2.2.1 0 0 (by rw [h1]; simp)).trans h1
    rw [pat, alt, altLoop, if_pos hgo, hm]
theorem brackets {p : ByteArray} {t : Tr} {j : Nat} (h : parseOf p = .ok t j) (hs : p.size ≤ 1022) : ∃ q b : Nat, skim p p.size ⟨0, 0, 0, 0⟩ = ⟨p.size, 0, q, b⟩ ∧ (q ≤ 63 → parseOf (⟨#[40]⟩ ++ p ++ ⟨#[41]⟩) = .ok t (p.size + 2)) ∧ (64 ≤ q → ∃ a, parseOf (⟨#[40]⟩ ++ p ++ ⟨#[41]⟩) = .bad a 47) := by
  obtain ⟨h1, hnl, hpat, hpl, hg, hn0⟩ := parse_ok h
  obtain ⟨q, b, hk, _, hq, hD, _⟩ := read_bars hpat
  obtain ⟨S, hS⟩ : ∃ S, S = (⟨#[40]⟩ ++ p ++ ⟨#[41]⟩ : ByteArray) := ⟨_, rfl⟩
  have hS2 : S = ⟨#[40]⟩ ++ (p ++ (⟨#[41]⟩ ++ ByteArray.empty)) := by rw [hS, ByteArray.append_empty, ByteArray.append_assoc]
  have hsh : Sh (p ++ (⟨#[41]⟩ ++ ByteArray.empty)) S (0 + 1) := by rw [hS2]; exact sh_app _ _
  have hz : S.size = p.size + 2 := by rw [hS, ByteArray.size_append, ByteArray.size_append, size_one, size_one]; omega
  have hb : ∀ i, byt S i = if i = 0 then 40 else if i < p.size + 1 then byt p (i - 1) else if i = p.size + 1 then 41 else 0 := fun i => by
    rw [hS, byt_app, byt_app, byt_one, byt_one, ByteArray.size_append, size_one]
    by_cases e : i = 0
    · subst e; simp
    · by_cases e2 : i < p.size + 1
      · rw [if_pos (by omega), if_neg (by omega), if_neg e, if_pos e2]
      · rw [if_neg (by omega), if_neg e, if_neg e2]
        by_cases e3 : i = p.size + 1
        · rw [if_pos (by omega), if_pos e3]; rfl
        · rw [if_neg (by omega), if_neg e3]
  have hSn : ∀ i, byt S i ≠ 10 := fun i => by
    rw [hb]
    split
    · decide
    · split
      · exact hnl _
      · split <;> decide
  have hG := group_in hD hsh (8 * p.size + 17) 0 (by omega) (by omega)
  have hP := pat_group (S := S) (n := 8 * p.size + 17 + 1) (by rw [hb]; rfl) (by omega)
  have hf : pat S (8 * p.size + 17 + 1 + 6) 0 0 = patOf S := by unfold patOf; rw [show 8 * S.size + 8 = 8 * p.size + 17 + 1 + 6 by omega]
  rw [← hS]
  refine ⟨q, b, hk, fun hq2 => ?_, fun hq2 => ?_⟩
  · have h2 := hP.1 t ((hG.1 (by omega)).trans (by congr 1; omega))
    rw [hf] at h2
    rw [parse_of (by omega) hSn, whole_ok h2, if_neg (by omega), hz]
  · obtain ⟨a, ha⟩ := hG.2 (by omega)
    have h2 := hP.2 a 47 ha
    rw [hf] at h2
    exact ⟨a, by rw [parse_of (by omega) hSn, whole_bad h2]⟩
theorem good_plc {N : Nat} {t : Tr} (h : Good N t) : (plc (up t)).2 = true := by
  have key : ∀ (ts : List Tn) (n : Nat), (∀ t ∈ ts, (plc t).2 = true) → ∃ m, plcs ts n = some m := fun ts => by
    induction ts with
    | nil => intro n _; exact ⟨n, by rw [plcs]⟩
    | cons t ts ih =>
      intro n hh
      rw [plcs, if_pos (hh t (by simp))]
      exact ih _ (fun u hu => hh u (by simp [hu]))
  have fin : ∀ (k : Int) (s : Oct.S) (ts : List Tn) (mn mx : Int), shapedT k s ts.length mn mx = true → (∀ t ∈ ts, (plc t).2 = true) → (plc (.mk k s ts mn mx)).2 = true := fun k s ts mn mx hsh hh => by
    obtain ⟨m, hm⟩ := key ts 0 hh
    rw [plc, if_pos hsh, hm]
  have hno : noSet Oct.none = true := by unfold noSet; rw [show Oct.none = fun _ => false from rfl]; simp [Oct.word_none]
  induction h with
  | leaf k hk =>
    rw [up_mk]
    refine fin _ _ _ _ _ ?_ (by simp)
    unfold shapedT
    rcases hk with rfl | rfl | rfl <;> simp [hno, plainT]
  | set s h =>
    rw [up_mk]
    refine fin _ _ _ _ _ ?_ (by simp)
    unfold shapedT
    simp [h, plainT]
  | many k hk subs h2 hN hs ih =>
    rw [up_mk]
    refine fin _ _ _ _ _ ?_ (fun t ht => ?_)
    · unfold shapedT
      rcases hk with rfl | rfl <;> simp [hno, plainT, h2]
    · obtain ⟨u, hu, rfl⟩ := List.mem_map.1 ht
      exact ih u hu
  | times t l m hc ht ih =>
    rw [up_mk]
    refine fin _ _ _ _ _ ?_ (fun u hu => ?_)
    · unfold shapedT
      simp [hno, hc]
    · simp at hu
      subst hu
      exact ih
end Go.Proofs.Ytlcnmfgmgiijpaa
