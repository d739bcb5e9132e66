/- Plain: what each call keeps of a disk. -/
import Derived.Test.YtpikepifhnkmkaaG02
namespace Sf
variable {d : Dk} {K : Nat}
theorem Wf.numF (h : Wf d K) {s : ByteArray} (hn : num d s ≠ 0) : ∃ f, d.ino (num d s) = some f ∧ f.nm = s := by
  unfold num at hn ⊢
  cases hl : d.lab s with
  | none => rw [hl] at hn; exact absurd rfl hn
  | some q => rw [hl] at hn; exact (h.lab s q.1 q.2 hl).2.2 hn
theorem Wf.numLe (h : Wf d K) (s : ByteArray) : num d s ≤ d.hi := by
  by_cases hn : num d s = 0
  · omega
  · obtain ⟨f, hf, _⟩ := h.numF hn
    exact (h.ino _ _ hf).2.1
theorem Wf.serLe (h : Wf d K) (s : ByteArray) : ser d s ≤ K := by
  unfold ser
  cases hl : d.lab s with
  | none => exact Nat.zero_le _
  | some q => exact (h.lab s q.1 q.2 hl).2.1
theorem Wf.up (h : Wf d K) {K' : Nat} (hk : K ≤ K') : Wf d K' := ⟨Nat.le_trans h.hi hk, fun n f hf => by have := h.ino n f hf; exact ⟨this.1, this.2.1, this.2.2.1, this.2.2.2.1, this.2.2.2.2.1, this.2.2.2.2.2.1, by omega⟩, fun s q n hq => by have := h.lab s q n hq; exact ⟨this.1, by omega, this.2.2⟩⟩
theorem num_some {s : ByteArray} (h : num d s ≠ 0) : ∃ q, d.lab s = some (q, num d s) := by
  unfold num at h ⊢
  cases hl : d.lab s with
  | none => rw [hl] at h; exact absurd rfl h
  | some q => exact ⟨q.1, rfl⟩
/-- an inode's bytes, generation, what lasts are changed -/
theorem Wf.putI (h : Wf d K) {n : Nat} {f f' : Ino} (hf : d.ino n = some f) (hn : f'.nm = f.nm) (h1 : f'.ls ≤ f'.bs.length) (h2 : f'.bs.length ≤ 1048576) (h3 : f'.gen ≤ K + 1) : Wf (Sf.putI d n (some f')) (K + 1) := by
  refine ⟨by have := h.hi; show d.hi ≤ K + 1; omega, fun m g hg => ?_, fun s q m hq => ?_⟩
  · by_cases e : m = n
    · subst e
      simp [Sf.putI] at hg
      subst hg
      have := h.ino m f hf
      exact ⟨this.1, this.2.1, by rw [hn]; exact this.2.2.1, by rw [hn]; exact this.2.2.2.1, h1, h2, h3⟩
    · have hg : d.ino m = some g := by simpa [Sf.putI, e] using hg
      have := h.ino m g hg
      exact ⟨this.1, this.2.1, this.2.2.1, this.2.2.2.1, this.2.2.2.2.1, this.2.2.2.2.2.1, by omega⟩
  · have := h.lab s q m hq
    refine ⟨this.1, by omega, fun hm => ?_⟩
    obtain ⟨g, hg, hs⟩ := this.2.2 hm
    by_cases e : m = n
    · subst e
      rw [hf] at hg
      cases hg
      exact ⟨f', by simp [Sf.putI], hn.trans hs⟩
    · exact ⟨g, by simpa [Sf.putI, e] using hg, hs⟩
theorem Ino.shorten_ok {f : Ino} (h1 : f.ls ≤ f.bs.length) (h2 : f.bs.length ≤ 1048576) (n : Nat) : (f.shorten n).nm = f.nm ∧ (f.shorten n).ls ≤ (f.shorten n).bs.length ∧ (f.shorten n).bs.length ≤ 1048576 ∧ (f.shorten n).gen ≤ f.gen + 1 := by
  unfold Ino.shorten
  split
  · exact ⟨rfl, h1, h2, by omega⟩
  · refine ⟨rfl, ?_, ?_, Nat.le_refl _⟩
    · simp only [List.length_take]; omega
    · simp only [List.length_take]; omega
theorem Ino.crash_ok {f : Ino} (h1 : f.ls ≤ f.bs.length) (h2 : f.bs.length ≤ 1048576) (k : Int) : (f.crash k).nm = f.nm ∧ (f.crash k).ls ≤ (f.crash k).bs.length ∧ (f.crash k).bs.length ≤ 1048576 ∧ (f.crash k).gen ≤ f.gen + 1 := by
  obtain ⟨a, b, c, e⟩ := Ino.shorten_ok h1 h2 (f.ls + f.stay k)
  unfold Ino.crash Ino.sync
  exact ⟨a, Nat.le_refl _, c, e⟩
/-- an inode goes -/
theorem Wf.drop (h : Wf d K) {n : Nat} {f : Ino} (hf : d.ino n = some f) : Wf (Sf.drop d n f) K := by
  have hn := h.ino n f hf
  refine ⟨h.hi, fun m g hg => ?_, fun s q m hq => ?_⟩
  · by_cases e : m = n
    · subst e; simp [Sf.drop, Sf.putI] at hg
    · have hg : d.ino m = some g := by simpa [Sf.drop, Sf.putI, Sf.putL, e] using hg
      have := h.ino m g hg
      refine ⟨this.1, this.2.1, this.2.2.1, ?_, this.2.2.2.2⟩
      have hne : g.nm ≠ f.nm := fun x => e (by rw [← this.2.2.2.1, x]; exact hn.2.2.2.1)
      have e2 : num (Sf.drop d n f) g.nm = num d g.nm := by simp [num, Sf.drop, Sf.putI, Sf.putL, hne]
      rw [e2]
      exact this.2.2.2.1
  · by_cases e : s = f.nm
    · subst e
      simp [Sf.drop, Sf.putI, Sf.putL] at hq
      obtain ⟨rfl, rfl⟩ := hq
      exact ⟨hn.2.2.1, h.serLe _, fun x => absurd rfl x⟩
    · have hq : d.lab s = some (q, m) := by simpa [Sf.drop, Sf.putI, Sf.putL, e] using hq
      have := h.lab s q m hq
      refine ⟨this.1, this.2.1, fun hm => ?_⟩
      obtain ⟨g, hg, hs⟩ := this.2.2 hm
      have hmn : m ≠ n := fun x => e (by subst x; rw [hf] at hg; cases hg; exact hs.symm)
      exact ⟨g, by simpa [Sf.drop, Sf.putI, Sf.putL, hmn] using hg, hs⟩
/-- an inode whose name no other has, and that may be, arrives -/
theorem Wf.arrive {d : Dk} {K : Nat} {n : Nat} {f : Ino} {s : ByteArray} (hhi : d.hi ≤ K + 1) (hn : 1 ≤ n ∧ n ≤ d.hi) (hs : may s = true) (hser : ser d s ≤ K) (hb : f.ls ≤ f.bs.length ∧ f.bs.length ≤ 1048576 ∧ f.gen ≤ K + 1)
    (hi : ∀ m g, d.ino m = some g → m ≠ n → 1 ≤ m ∧ m ≤ d.hi ∧ may g.nm = true ∧ num d g.nm = m ∧ g.ls ≤ g.bs.length ∧ g.bs.length ≤ 1048576 ∧ g.gen ≤ K)
    (hl : ∀ t q m, d.lab t = some (q, m) → may t = true ∧ q ≤ K ∧ (t ≠ s → m ≠ 0 → m ≠ n ∧ ∃ g, d.ino m = some g ∧ g.nm = t)) (hfree : ∀ m g, d.ino m = some g → m ≠ n → g.nm ≠ s) : Wf (Sf.arrive d n f s) (K + 1) := by
  refine ⟨hhi, fun m g hg => ?_, fun t q m hq => ?_⟩
  · by_cases e : m = n
    · subst e
      simp [Sf.arrive, Sf.putI] at hg
      subst hg
      refine ⟨hn.1, hn.2, hs, ?_, hb.1, hb.2.1, hb.2.2⟩
      show num _ s = m
      simp [num, Sf.arrive, Sf.putI, Sf.putL]
    · have hg : d.ino m = some g := by simpa [Sf.arrive, Sf.putI, Sf.putL, e] using hg
      have := hi m g hg e
      refine ⟨this.1, this.2.1, this.2.2.1, ?_, this.2.2.2.2.1, this.2.2.2.2.2.1, by omega⟩
      have e2 : num (Sf.arrive d n f s) g.nm = num d g.nm := by simp [num, Sf.arrive, Sf.putI, Sf.putL, hfree m g hg e]
      rw [e2]
      exact this.2.2.2.1
  · by_cases e : t = s
    · subst e
      simp [Sf.arrive, Sf.putI, Sf.putL] at hq
      obtain ⟨rfl, rfl⟩ := hq
      exact ⟨hs, by omega, fun _ => ⟨f.name t, by simp [Sf.arrive, Sf.putI], rfl⟩⟩
    · have hq : d.lab t = some (q, m) := by simpa [Sf.arrive, Sf.putI, Sf.putL, e] using hq
      have := hl t q m hq
      refine ⟨this.1, by omega, fun hm => ?_⟩
      obtain ⟨h1, g, hg, hs⟩ := this.2.2 e hm
      exact ⟨g, by simpa [Sf.arrive, Sf.putI, Sf.putL, h1] using hg, hs⟩
theorem Wf.create (h : Wf d K) {s : ByteArray} (hs : may s = true) (h0 : num d s = 0) : Wf (Sf.create d s) (K + 1) := by
  have hlab : (Sf.putI (Sf.up d) (d.hi + 1) (some fresh)).lab = d.lab := rfl
  have hne : ∀ m g, (Sf.putI (Sf.up d) (d.hi + 1) (some fresh)).ino m = some g → m ≠ d.hi + 1 → d.ino m = some g := fun m g hg e => by simpa [Sf.putI, Sf.up, e] using hg
  have hnum : ∀ t, num (Sf.putI (Sf.up d) (d.hi + 1) (some fresh)) t = num d t := fun t => rfl
  refine Wf.arrive (by show d.hi + 1 ≤ K + 1; have := h.hi; omega) ⟨by omega, Nat.le_refl _⟩ hs (h.serLe s) ⟨Nat.le_refl _, by decide, Nat.zero_le _⟩ (fun m g hg e => ?_) (fun t q m hq => ?_) (fun m g hg e hx => ?_)
  · have := h.ino m g (hne m g hg e)
    exact ⟨this.1, by show m ≤ d.hi + 1; omega, this.2.2.1, by rw [hnum]; exact this.2.2.2.1, this.2.2.2.2⟩
  · rw [hlab] at hq
    have := h.lab t q m hq
    refine ⟨this.1, this.2.1, fun _ hm => ?_⟩
    obtain ⟨g, hg, hx⟩ := this.2.2 hm
    have hm2 : m ≠ d.hi + 1 := by have := (h.ino m g hg).2.1; omega
    exact ⟨hm2, g, by simpa [Sf.putI, Sf.up, hm2] using hg, hx⟩
  · have := h.ino m g (hne m g hg e)
    rw [hx, h0] at this
    omega
theorem Wf.gone (h : Wf d K) (s : ByteArray) : Wf (Sf.gone d s) K ∧ num (Sf.gone d s) s = 0 ∧ (∀ m, m ≠ num d s → (Sf.gone d s).ino m = d.ino m) ∧ (∀ t, t ≠ s → (Sf.gone d s).lab t = d.lab t) ∧ (Sf.gone d s).hi = d.hi ∧ ser (Sf.gone d s) s = ser d s := by
  unfold Sf.gone
  by_cases hn : num d s = 0
  · rw [if_pos hn]
    exact ⟨h, hn, fun _ _ => rfl, fun _ _ => rfl, rfl, rfl⟩
  · rw [if_neg hn]
    obtain ⟨f, hf, hs⟩ := h.numF hn
    rw [hf]
    subst hs
    refine ⟨h.drop hf, ?_, fun m hm => ?_, fun t ht => ?_, rfl, ?_⟩
    · simp [num, Sf.drop, Sf.putI, Sf.putL]
    · simp [Sf.drop, Sf.putI, Sf.putL, hm]
    · simp [Sf.drop, Sf.putI, Sf.putL, ht]
    · simp [ser, Sf.drop, Sf.putI, Sf.putL]
theorem Wf.rename (h : Wf d K) {a b : ByteArray} (hb : may b = true) (hn : num d a ≠ 0) (hab : a ≠ b) : Wf (Sf.rename d a b) (K + 1) := by
  obtain ⟨f, hf, hfa⟩ := h.numF hn
  unfold Sf.rename
  rw [hf]
  obtain ⟨g1, g2, g3, g4, g5, g6⟩ := h.gone b
  have hfi := h.ino _ f hf
  have hfm : num d a ≠ num d b := fun e => by
    obtain ⟨f2, hf2, hx⟩ := h.numF (s := b) (by omega)
    rw [← e, hf] at hf2
    cases hf2
    exact hab (hfa.symm.trans hx)
  have hfg : (Sf.gone d b).ino (num d a) = some f := by rw [g3 _ hfm]; exact hf
  have hna : num (Sf.gone d b) a = num d a := by unfold num; rw [g4 a hab]
  refine Wf.arrive (by show (Sf.gone d b).hi ≤ K + 1; rw [g5]; have := h.hi; omega) ⟨hfi.1, by show _ ≤ (Sf.gone d b).hi; rw [g5]; exact hfi.2.1⟩ hb ?_ ⟨hfi.2.2.2.2.1, hfi.2.2.2.2.2.1, by omega⟩ (fun m g hg e => ?_) (fun t q m hq => ?_) (fun m g hg e hx => ?_)
  · have e2 : ser (Sf.putL (Sf.gone d b) a (ser (Sf.gone d b) a) 0) b = ser (Sf.gone d b) b := by have hba : b ≠ a := fun x => hab x.symm; simp [ser, Sf.putL, hba]
    rw [e2]
    exact g1.serLe b
  · have hg : (Sf.gone d b).ino m = some g := hg
    have := g1.ino m g hg
    have hne : g.nm ≠ a := fun x => e (by rw [← this.2.2.2.1, x]; exact hna)
    refine ⟨this.1, this.2.1, this.2.2.1, ?_, this.2.2.2.2⟩
    have e2 : num (Sf.putL (Sf.gone d b) a (ser (Sf.gone d b) a) 0) g.nm = num (Sf.gone d b) g.nm := by simp [num, Sf.putL, hne]
    rw [e2]
    exact this.2.2.2.1
  · by_cases e : t = a
    · subst e
      simp [Sf.putL] at hq
      obtain ⟨rfl, rfl⟩ := hq
      exact ⟨by rw [← hfa]; exact hfi.2.2.1, g1.serLe _, fun _ x => absurd rfl x⟩
    · have hq : (Sf.gone d b).lab t = some (q, m) := by simpa [Sf.putL, e] using hq
      have := g1.lab t q m hq
      refine ⟨this.1, this.2.1, fun _ hm => ?_⟩
      obtain ⟨g, hg, hx⟩ := this.2.2 hm
      refine ⟨fun x => ?_, g, hg, hx⟩
      subst x
      rw [hfg] at hg
      cases hg
      exact e (hx.symm.trans hfa)
  · have hg : (Sf.gone d b).ino m = some g := hg
    have := g1.ino m g hg
    rw [hx, g2] at this
    omega
end Sf
