/- Plain: what the history's law holds of a call. -/
import Derived.Test.YtjlfhaehdllmcaaG32
import Derived.Test.YtjlfhaehdllmcaaG33
namespace Go.Proofs.Ytjlfhaehdllmcaa
open Go.RowKit Sf

def InoG (f f' : Ino) : Prop := f.gen < f'.gen ∨ (f'.gen = f.gen ∧ f.bs <+: f'.bs)
theorem InoG.rfl' (f : Ino) : InoG f f := .inr ⟨rfl, List.prefix_refl _⟩
theorem InoG.trans {f g h : Ino} (a : InoG f g) (b : InoG g h) : InoG f h := by
  rcases a with a | ⟨a, a2⟩ <;> rcases b with b | ⟨b, b2⟩
  · exact .inl (by omega)
  · exact .inl (by omega)
  · exact .inl (by omega)
  · exact .inr ⟨by omega, a2.trans b2⟩
theorem InoG.shorten (f : Ino) (n : Nat) : InoG f (f.shorten n) := by
  unfold Ino.shorten
  split
  · exact InoG.rfl' f
  · exact .inl (Nat.lt_succ_self _)
theorem InoG.sync (f : Ino) : InoG f f.sync := .inr ⟨rfl, List.prefix_refl _⟩
theorem InoG.name (f : Ino) (s : ByteArray) : InoG f (f.name s) := .inr ⟨rfl, List.prefix_refl _⟩
theorem InoG.crash (f : Ino) (k : Int) : InoG f (f.crash k) := (InoG.shorten f _).trans (InoG.sync _)
theorem InoG.lay (f : Ino) (b : List UInt8) : InoG f (f.lay b) := .inr ⟨rfl, List.prefix_append _ _⟩
def DkG (d d' : Dk) : Prop := ∀ n f', d'.ino n = some f' → ∃ f, d.ino n = some f ∧ InoG f f'
theorem DkG.rfl' (d : Dk) : DkG d d := fun _ f' h => ⟨f', h, InoG.rfl' f'⟩
theorem DkG.trans {d e g : Dk} (a : DkG d e) (b : DkG e g) : DkG d g := fun n f' h => by
  obtain ⟨f, hf, x⟩ := b n f' h
  obtain ⟨f0, hf0, y⟩ := a n f hf
  exact ⟨f0, hf0, y.trans x⟩
theorem DkG.putI {d : Dk} {n : Nat} {f f' : Ino} (h : d.ino n = some f) (hg : InoG f f') : DkG d (Sf.putI d n (some f')) := fun m g x => by
  by_cases e : m = n
  · subst e
    simp [Sf.putI] at x
    subst x
    exact ⟨f, h, hg⟩
  · exact ⟨g, by simpa [Sf.putI, e] using x, InoG.rfl' g⟩
theorem DkG.drop (d : Dk) (n : Nat) (f : Ino) : DkG d (Sf.drop d n f) := fun m g x => by
  by_cases e : m = n
  · subst e; simp [Sf.drop, Sf.putI] at x
  · exact ⟨g, by simpa [Sf.drop, Sf.putI, Sf.putL, e] using x, InoG.rfl' g⟩
theorem DkG.gone (d : Dk) (s : ByteArray) : DkG d (Sf.gone d s) := by
  unfold Sf.gone
  split
  · exact DkG.rfl' d
  · split
    · exact DkG.drop d _ _
    · exact DkG.rfl' d
theorem DkG.crStep (keep : List Int) (s : Nat × Dk) (n : Nat) : DkG s.2 (Sf.crStep keep s n).2 := by
  unfold Sf.crStep
  split
  · exact DkG.rfl' _
  · rename_i f hf
    split
    · exact DkG.rfl' _
    · exact DkG.putI hf (InoG.crash f _)
theorem DkG.fold (keep : List Int) : ∀ (l : List Nat) (s : Nat × Dk), DkG s.2 (l.foldl (Sf.crStep keep) s).2 ∧ (l.foldl (Sf.crStep keep) s).2.hi = s.2.hi ∧ (l.foldl (Sf.crStep keep) s).2.lab = s.2.lab
  | [], s => ⟨DkG.rfl' _, rfl, rfl⟩
  | n :: l, s => by
    obtain ⟨a, b, c⟩ := DkG.fold keep l (Sf.crStep keep s n)
    have x := crStep_lab (keep := keep) s n
    exact ⟨(DkG.crStep keep s n).trans a, b.trans x.2.1, c.trans x.1⟩
theorem crash_hi (d : Dk) (keep : List Int) : (Sf.crash d keep).hi = d.hi := (DkG.fold keep _ (0, d)).2.1
theorem crash_lab (d : Dk) (keep : List Int) : (Sf.crash d keep).lab = d.lab := (DkG.fold keep _ (0, d)).2.2
theorem DkG.crash (d : Dk) (keep : List Int) : DkG d (Sf.crash d keep) := (DkG.fold keep _ (0, d)).1
theorem ser_drop (d : Dk) (n : Nat) (f : Ino) (s : ByteArray) : ser (Sf.drop d n f) s = ser d s := by
  by_cases e : s = f.nm
  · subst e; simp [ser, Sf.drop, Sf.putI, Sf.putL]
  · simp [ser, Sf.drop, Sf.putI, Sf.putL, e]
theorem DkG.rename {d : Dk} {K : Nat} (h : Wf d K) {a b : ByteArray} (hn : num d a ≠ 0) (hab : a ≠ b) : DkG d (Sf.rename d a b) ∧ (Sf.rename d a b).hi = d.hi ∧ (Sf.rename d a b).lab b = some (ser d b + 1, num d a) := by
  obtain ⟨f, hf, hfa⟩ := h.numF hn
  obtain ⟨g1, g2, g3, g4, g5, g6⟩ := h.gone b
  have hba : b ≠ a := fun x => hab x.symm
  unfold Sf.rename
  rw [hf]
  refine ⟨fun m g x => ?_, g5, ?_⟩
  · by_cases e : m = num d a
    · subst e
      simp [Sf.arrive, Sf.putI] at x
      subst x
      exact ⟨f, hf, InoG.name f b⟩
    · exact DkG.gone d b m g (by simpa [Sf.arrive, Sf.putI, Sf.putL, e] using x)
  · have e2 : ser (Sf.putL (Sf.gone d b) a (ser (Sf.gone d b) a) 0) b = ser d b := by
      rw [← g6]; simp [ser, Sf.putL, hba]
    simp [Sf.arrive, Sf.putI, Sf.putL]
    rw [← e2]
    rfl
theorem err_141 {d : Dk} {s : ByteArray} (h : err d s = 141) : may s = true ∧ num d s = 0 := by
  unfold err at h
  cases x : may s with
  | false => rw [x] at h; simp at h
  | true =>
    rw [x, if_pos rfl] at h
    refine ⟨rfl, Classical.byContradiction fun y => ?_⟩
    rw [if_neg y] at h
    omega
/-- THE LAW of one call. -/
structure Law (d : Dk) (o : Opr) (r : Dk × Nat × Bool) : Prop where
  none : r.2.1 ≠ 0 → r.1 = d
  hi : r.1.hi = if o.kind = 0 ∧ r.2.1 = 0 then d.hi + 1 else d.hi
  grow : ∀ n f', r.1.ino n = some f' → n ≤ d.hi → ∃ f, d.ino n = some f ∧ InoG f f'
  fresh : o.kind = 0 → r.2.1 = 0 → r.1.lab o.a = some (ser d o.a + 1, d.hi + 1) ∧ r.1.ino (d.hi + 1) = some ⟨o.a, 0, [], 0⟩ ∧ r.2.2 = true ∧ err d o.a = 141
  ren : o.kind = 3 → r.2.2 = true → (∃ n, n ≠ 0 ∧ r.1.lab o.b = some (ser d o.b + 1, n)) ∧ may o.b = true ∧ r.2.1 = 0
  kinds : r.2.2 = true → r.2.1 = 0 ∧ (o.kind = 0 ∨ o.kind = 3)
  ser : r.2.2 = false → ∀ s, Sf.ser r.1 s = Sf.ser d s
theorem Law.same {d : Dk} {o : Opr} {e : Nat} (h : o.kind = 0 → e ≠ 0) : Law d o (d, e, false) := by
  refine ⟨fun _ => rfl, ?_, fun n f' x _ => ⟨f', x, InoG.rfl' f'⟩, fun h0 h1 => absurd h1 (h h0), fun _ x => (Bool.false_ne_true x).elim, fun x => (Bool.false_ne_true x).elim, fun _ _ => rfl⟩
  rw [if_neg (fun x => h x.1 x.2)]
theorem Law.still {d d' : Dk} {o : Opr} (h : ¬ o.kind = 0) (hg : DkG d d') (hh : d'.hi = d.hi) (hs : ∀ s, Sf.ser d' s = Sf.ser d s) : Law d o (d', 0, false) := by
  refine ⟨fun x => absurd rfl x, ?_, fun n f' x _ => hg n f' x, fun x => absurd x h, fun _ x => (Bool.false_ne_true x).elim, fun x => (Bool.false_ne_true x).elim, fun _ => hs⟩
  rw [if_neg (fun x => h x.1)]
  exact hh
theorem law_any {d : Dk} {K : Nat} (h : Wf d K) (o : Opr) (l : List UInt8) : Law d o (doR d o l) := by
  have hin : err d o.a = 0 → ∃ f, d.ino (num d o.a) = some f := fun he => by
    obtain ⟨f, hf, _⟩ := h.numF (err_zero he).2
    exact ⟨f, hf⟩
  unfold doR
  by_cases k0 : o.kind = 0
  · rw [if_pos k0]
    by_cases he : err d o.a = 141
    · rw [if_pos he]
      refine ⟨fun x => absurd rfl x, by rw [if_pos ⟨k0, rfl⟩]; rfl, fun n f' x hn => ⟨f', ?_, InoG.rfl' f'⟩, fun _ _ => ⟨?_, ?_, rfl, he⟩, fun x => absurd (x.symm.trans k0) (by decide), fun _ => ⟨rfl, .inl k0⟩, fun x => by cases x⟩
      · have e : n ≠ d.hi + 1 := by omega
        simpa [Sf.create, Sf.arrive, Sf.putI, Sf.putL, Sf.up, e] using x
      · simp [Sf.create, Sf.arrive, Sf.putI, Sf.putL, Sf.up]
        rfl
      · simp [Sf.create, Sf.arrive, Sf.putI, Sf.putL, Sf.up, Ino.name, Sf.fresh]
    · rw [if_neg he]
      exact Law.same (fun _ => by split <;> decide)
  rw [if_neg k0]
  by_cases k1 : o.kind = 1
  · rw [if_pos k1]
    by_cases he : err d o.a = 0
    · obtain ⟨f, hf⟩ := hin he
      rw [if_pos he]
      unfold layN
      rw [hf]
      simp only
      split
      · exact Law.still k0 (DkG.putI hf (InoG.lay f l)) rfl (fun _ => rfl)
      · exact Law.same (fun x => absurd x k0)
    · rw [if_neg he]
      exact Law.same (fun x => absurd x k0)
  rw [if_neg k1]
  by_cases k2 : o.kind = 2
  · rw [if_pos k2]
    by_cases he : err d o.a = 0
    · obtain ⟨f, hf⟩ := hin he
      rw [if_pos he]
      unfold onI
      rw [hf]
      exact Law.still k0 (DkG.putI hf (InoG.shorten f 0)) rfl (fun _ => rfl)
    · rw [if_neg he]
      exact Law.same (fun x => absurd x k0)
  rw [if_neg k2]
  by_cases k3 : o.kind = 3
  · rw [if_pos k3]
    by_cases he : renE d o.a o.b = 0 ∧ o.a ≠ o.b
    · rw [if_pos he]
      obtain ⟨e1, e2⟩ := renE_zero he.1
      obtain ⟨a, b, c⟩ := DkG.rename h (err_zero e1).2 he.2
      exact ⟨fun x => absurd rfl x, by rw [if_neg (fun x => k0 x.1)]; exact b, fun n f' x _ => a n f' x, fun x => absurd x k0, fun _ _ => ⟨⟨_, (err_zero e1).2, c⟩, e2, rfl⟩, fun _ => ⟨rfl, .inr k3⟩, fun x => by cases x⟩
    · rw [if_neg he]
      exact Law.same (fun x => absurd x k0)
  rw [if_neg k3]
  by_cases k4 : o.kind = 4
  · rw [if_pos k4]
    by_cases he : err d o.a = 0
    · obtain ⟨f, hf⟩ := hin he
      rw [if_pos he]
      unfold dropN
      rw [hf]
      exact Law.still k0 (DkG.drop d _ f) rfl (fun s => ser_drop d _ f s)
    · rw [if_neg he]
      exact Law.same (fun x => absurd x k0)
  rw [if_neg k4]
  by_cases k5 : o.kind = 5
  · rw [if_pos k5]
    by_cases he : err d o.a = 0
    · obtain ⟨f, hf⟩ := hin he
      rw [if_pos he]
      unfold onI
      rw [hf]
      exact Law.still k0 (DkG.putI hf (InoG.sync f)) rfl (fun _ => rfl)
    · rw [if_neg he]
      exact Law.same (fun x => absurd x k0)
  rw [if_neg k5]
  by_cases k10 : o.kind = 10
  · rw [if_pos k10]
    exact Law.still k0 (DkG.crash d _) (crash_hi d _) (fun s => by unfold Sf.ser; rw [crash_lab])
  rw [if_neg k10]
  exact Law.same (fun x => absurd x k0)
theorem beg_prefix {a b : List UInt8} (h : a <+: b) : Beg ⟨a.toArray⟩ ⟨b.toArray⟩ := by
  obtain ⟨t, rfl⟩ := h
  refine ⟨?_, ?_⟩
  · show a.toArray.size ≤ (a ++ t).toArray.size
    simp
  · apply ByteArray.ext
    rw [ByteArray.data_extract]
    show ((a ++ t).toArray.extract 0 a.toArray.size) = a.toArray
    simp
theorem files_at {d : Dk} {m n : Nat} (h : n < m) : (files d m)[n]? = some (fileOf d (n + 1)) := by unfold files; simp [h]
theorem grows_of {d d' : Dk} {n : Nat} (h1 : 1 ≤ n) (h : ∀ f', d'.ino n = some f' → ∃ f, d.ino n = some f ∧ InoG f f') : Grows (fileOf d n) (fileOf d' n) := by
  unfold fileOf Grows
  cases hd : d'.ino n with
  | none => exact .inl rfl
  | some f' =>
    obtain ⟨f, hf, hg⟩ := h f' hd
    rw [hf]
    refine .inr ⟨by show n ≠ 0; omega, by show n ≠ 0; omega, ?_⟩
    rcases hg with hg | ⟨hg, hp⟩
    · exact .inl hg
    · exact .inr ⟨hg, beg_prefix hp⟩
theorem fileOf_ok {d : Dk} {K n : Nat} (h : Wf d K) (hK : K ≤ 1000000) : (fileOf d n).Ok := by
  unfold fileOf
  cases hd : d.ino n with
  | none => exact (⟨by decide, by decide, by decide, by decide, by decide⟩ : Fl.zero.Ok)
  | some f =>
    have := h.ino n f hd
    have h2 := h.hi
    have h3 := h.serLe f.nm
    exact ⟨by show f.gen ≤ _; omega, by show n ≤ _; omega, by show Sf.ser d f.nm ≤ _; omega, this.2.2.2.2.2.1, by show f.bs.toArray.size ≤ _; simpa using this.2.2.2.2.2.1⟩
theorem fileOf_above {d : Dk} {K n : Nat} (h : Wf d K) (hn : d.hi < n) : fileOf d n = Fl.zero := by
  unfold fileOf
  cases hd : d.ino n with
  | none => rfl
  | some f => have := h.ino n f hd; omega
theorem files_grow {d d' : Dk} {o : Opr} {e : Nat} {b : Bool} (h : Law d o (d', e, b)) {n : Nat} (hn : n + 1 ≤ d.hi) : Grows (fileOf d (n + 1)) (fileOf d' (n + 1)) := grows_of (by omega) (fun f' hf => h.grow (n + 1) f' hf hn)
end Go.Proofs.Ytjlfhaehdllmcaa
