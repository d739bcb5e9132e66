/- Plain: what an event makes of a disk; what of it only grows (typed by gen/fodo.py). -/
import Derived.Test.YtpikepifhnkmkaaG21
import Derived.Test.YtpikepifhnkmkaaG19
import Derived.Test.YtpikepifhnkmkaaG22
import Derived.Test.YtpikepifhnkmkaaG27
import Derived.Lib.ConvBytes
namespace Go.Proofs.Ytpikepifhnkmkaa
open Go.RowKit Go.Maps Sf

def onI (d : Dk) (a : ByteArray) (g : Ino → Ino) : Dk := match d.ino (num d a) with
  | some f => Sf.putI d (num d a) (some (g f))
  | none => d
def dropN (d : Dk) (a : ByteArray) : Dk := match d.ino (num d a) with
  | some f => Sf.drop d (num d a) f
  | none => d
def layN (d : Dk) (a : ByteArray) (l : List UInt8) : Dk := match d.ino (num d a) with
  | some f => if f.bs.length + l.length ≤ 1048576 then Sf.putI d (num d a) (some (f.lay l)) else d
  | none => d
structure Evt where
  kind : Int
  a : ByteArray
  b : ByteArray
  s : ByteArray
  keep : List Int
structure Evt.Ok (o : Evt) : Prop where
  a : o.a.size ≤ maxLen
  b : o.b.size ≤ maxLen
  s : o.s.size ≤ maxLen
  k : ∀ z ∈ o.keep, goodI z
/-- what an event makes of a disk -/
def doE (d : Dk) (o : Evt) : Dk :=
  if o.kind = 0 then (if err d o.a = 141 then Sf.create d o.a else d)
  else if o.kind = 1 then (if err d o.a = 0 then layN d o.a o.s.data.toList else d)
  else if o.kind = 2 then (if err d o.a = 0 then onI d o.a (fun f => f.shorten 0) else d)
  else if o.kind = 3 then (if renE d o.a o.b = 0 ∧ o.a ≠ o.b then Sf.rename d o.a o.b else d)
  else if o.kind = 4 then (if err d o.a = 0 then dropN d o.a else d)
  else if o.kind = 5 then (if err d o.a = 0 then onI d o.a Ino.sync else d)
  else if o.kind = 6 then Sf.crash d o.keep
  else d
theorem renE_zero {d : Dk} {a b : ByteArray} (h : renE d a b = 0) : err d a = 0 ∧ may b = true := by
  unfold renE at h
  by_cases x : err d a = 140 ∨ may b = false
  · rw [if_pos x] at h; omega
  · rw [if_neg x] at h
    refine ⟨h, ?_⟩
    cases y : may b with
    | true => rfl
    | false => exact absurd (.inr y) x
theorem doE_wf {d : Dk} {K : Nat} (h : Wf d K) (o : Evt) : Wf (doE d o) (K + 1) := by
  have hu := h.up (Nat.le_succ K)
  have hin : err d o.a = 0 → ∃ f, d.ino (num d o.a) = some f ∧ f.ls ≤ f.bs.length ∧ f.bs.length ≤ 1048576 ∧ f.gen ≤ K := fun he => by
    obtain ⟨f, hf, _⟩ := h.numF (err_zero he).2
    have := h.ino _ f hf
    exact ⟨f, hf, this.2.2.2.2.1, this.2.2.2.2.2.1, this.2.2.2.2.2.2⟩
  unfold doE
  repeat' split
  · rename_i he
    have hm : may o.a = true := by
      unfold err at he
      cases x : may o.a with
      | true => rfl
      | false => rw [x] at he; simp at he
    refine h.create hm ?_
    unfold err at he
    rw [hm] at he
    refine Classical.byContradiction fun x => ?_
    rw [if_pos rfl, if_neg x] at he
    omega
  · exact hu
  · rename_i he
    obtain ⟨f, hf, h1, h2, h3⟩ := hin he
    unfold layN
    rw [hf]
    simp only
    split
    · rename_i hle
      exact h.putI hf rfl (by show f.ls ≤ (f.bs ++ o.s.data.toList).length; rw [List.length_append]; omega) (by show (f.bs ++ o.s.data.toList).length ≤ _; rw [List.length_append]; exact hle) (by show f.gen ≤ K + 1; omega)
    · exact hu
  · exact hu
  · rename_i he
    obtain ⟨f, hf, h1, h2, h3⟩ := hin he
    unfold onI
    rw [hf]
    obtain ⟨a1, a2, a3, a4⟩ := Ino.shorten_ok h1 h2 0
    exact h.putI (f' := f.shorten 0) hf a1 a2 a3 (by omega)
  · exact hu
  · rename_i he
    obtain ⟨e1, e2⟩ := renE_zero he.1
    exact h.rename e2 (err_zero e1).2 he.2
  · exact hu
  · rename_i he
    obtain ⟨f, hf, h1, h2, h3⟩ := hin he
    unfold dropN
    rw [hf]
    exact (h.drop hf).up (Nat.le_succ K)
  · exact hu
  · rename_i he
    obtain ⟨f, hf, h1, h2, h3⟩ := hin he
    unfold onI
    rw [hf]
    exact h.putI hf rfl (Nat.le_refl _) h2 (by show f.gen ≤ K + 1; omega)
  · exact hu
  · exact h.crash
  · exact hu
def DoPost (P : Nat → Prop) (w : World) (B : Nat) (d' : Dk) (K : Nat) (e : Ending) (w' : World) : Prop := ∃ x : Nat, e = .returned (.int .i64 (x : Nat)) ∧ DkTo P w B d' (K + 1) w'
section
variable {P : Nat → Prop} {w u v : World} {B K : Nat} {d : Dk}
theorem dkto_no (h : Dsk P w B d K) (hb : Below w.heap.size w u) : DkTo P w B d (K + 1) u := by
  obtain ⟨L, h1, h2⟩ := h.m
  exact ⟨⟨L, h1.more hb, by omega, by omega⟩, FrP.of_below P hb⟩
theorem DkTo.up {c c' : Nat} (h : DkTo P w B d c u) (hc : c ≤ c') : DkTo P w B d c' u := by
  obtain ⟨⟨L, h1, h2, h3⟩, h4⟩ := h
  exact ⟨⟨L, h1, by omega, by omega⟩, h4⟩
theorem DkTo.dsk {d' : Dk} (h : DkTo P w B d' (K + 1) u) (hw : Wf d' (K + 1)) (hK : K < 1000000) : Dsk (More P w u) u B d' (K + 1) := ⟨hw, h.1, by omega⟩
theorem do1 (h : Dsk P w B d K) (o : Evt) (ho : o.Ok) (hk : o.kind = 0) : Calls Try.prog 10 #[.pointer (some ⟨B, 0, none⟩), .string o.a] w (DoPost P w B (doE d o) K) := (create_any h o.a ho.a).mono fun e w' x => by
  unfold doE
  rw [if_pos hk]
  rcases x with ⟨h1, h2, h3⟩ | ⟨h1, h2, h3⟩
  · rw [if_neg h1]; exact ⟨_, h2, dkto_no h h3⟩
  · rw [if_pos h1]; exact ⟨0, h2, h3⟩
theorem do2 (h : Dsk P w B d K) (o : Evt) (ho : o.Ok) (hk : o.kind = 1) {Y : Value} (hY : LAt w Y (uv o.s.data.toList)) : Calls Try.prog 12 #[.pointer (some ⟨B, 0, none⟩), .string o.a, Y] w (DoPost P w B (doE d o) K) := (append_any h o.a ho.a hY).mono fun e w' x => by
  unfold doE
  rw [if_neg (by omega), if_pos hk]
  rcases x with ⟨h1, h2, h3⟩ | ⟨h1, f, hf, (⟨h4, h2, h3⟩ | ⟨h4, h2, h3⟩)⟩
  · rw [if_neg h1]; exact ⟨_, h2, dkto_no h h3⟩
  · rw [if_pos h1]; unfold layN; rw [hf]; simp only; rw [if_neg (by omega)]; exact ⟨_, h2, dkto_no h h3⟩
  · rw [if_pos h1]; unfold layN; rw [hf]; simp only; rw [if_pos h4]; exact ⟨0, h2, h3.up (Nat.le_succ K)⟩
theorem do3 (h : Dsk P w B d K) (o : Evt) (ho : o.Ok) (hk : o.kind = 2) : Calls Try.prog 30 #[.pointer (some ⟨B, 0, none⟩), .string o.a] w (DoPost P w B (doE d o) K) := (cut_any h o.a ho.a).mono fun e w' x => by
  unfold doE
  rw [if_neg (by omega), if_neg (by omega), if_pos hk]
  rcases x with ⟨h1, h2, h3⟩ | ⟨h1, f, hf, h2, h3⟩
  · rw [if_neg h1]; exact ⟨_, h2, dkto_no h h3⟩
  · rw [if_pos h1]; unfold onI; rw [hf]; exact ⟨0, h2, h3.up (Nat.le_succ K)⟩
theorem do4 (h : Dsk P w B d K) (o : Evt) (ho : o.Ok) (hk : o.kind = 3) : Calls Try.prog 9 #[.pointer (some ⟨B, 0, none⟩), .string o.a, .string o.b] w (DoPost P w B (doE d o) K) := (rename_any h o.a o.b ho.a ho.b).mono fun e w' x => by
  unfold doE
  rw [if_neg (by omega), if_neg (by omega), if_neg (by omega), if_pos hk]
  obtain ⟨h0, (⟨h1, h2, h3⟩ | ⟨h1, h3⟩)⟩ := x
  · rw [if_pos ⟨h1, h2⟩]; exact ⟨_, h0, h3⟩
  · rw [if_neg (fun y => by rcases h1 with z | z; exact z y.1; exact y.2 z)]; exact ⟨_, h0, dkto_no h h3⟩
theorem do5 (h : Dsk P w B d K) (o : Evt) (ho : o.Ok) (hk : o.kind = 4) : Calls Try.prog 31 #[.pointer (some ⟨B, 0, none⟩), .string o.a] w (DoPost P w B (doE d o) K) := (remove_any h o.a ho.a).mono fun e w' x => by
  unfold doE
  rw [if_neg (by omega), if_neg (by omega), if_neg (by omega), if_neg (by omega), if_pos hk]
  rcases x with ⟨h1, h2, h3⟩ | ⟨h1, f, hf, h2, h3⟩
  · rw [if_neg h1]; exact ⟨_, h2, dkto_no h h3⟩
  · rw [if_pos h1]; unfold dropN; rw [hf]; exact ⟨0, h2, h3.up (Nat.le_succ K)⟩
theorem do6 (h : Dsk P w B d K) (o : Evt) (ho : o.Ok) (hk : o.kind = 5) : Calls Try.prog 32 #[.pointer (some ⟨B, 0, none⟩), .string o.a] w (DoPost P w B (doE d o) K) := (dsync_any h o.a ho.a).mono fun e w' x => by
  unfold doE
  rw [if_neg (by omega), if_neg (by omega), if_neg (by omega), if_neg (by omega), if_neg (by omega), if_pos hk]
  rcases x with ⟨h1, h2, h3⟩ | ⟨h1, f, hf, h2, h3⟩
  · rw [if_neg h1]; exact ⟨_, h2, dkto_no h h3⟩
  · rw [if_pos h1]; unfold onI; rw [hf]; exact ⟨0, h2, h3.up (Nat.le_succ K)⟩
theorem doE6 (d : Dk) (o : Evt) (hk : o.kind = 6) : doE d o = Sf.crash d o.keep := by
  unfold doE
  rw [if_neg (by omega), if_neg (by omega), if_neg (by omega), if_neg (by omega), if_neg (by omega), if_neg (by omega), if_pos hk]
theorem doE0 (d : Dk) (o : Evt) (h : ¬ (o.kind = 0 ∨ o.kind = 1 ∨ o.kind = 2 ∨ o.kind = 3 ∨ o.kind = 4 ∨ o.kind = 5 ∨ o.kind = 6)) : doE d o = d := by
  unfold doE
  rw [if_neg (by omega), if_neg (by omega), if_neg (by omega), if_neg (by omega), if_neg (by omega), if_neg (by omega), if_neg (by omega)]
theorem lat_conv (w : World) (s : ByteArray) (hs : s.size ≤ maxLen) : LAt (Lib.bytesWorld w 5 s) (.slice (some ⟨w.heap.size, 0, none⟩) s.size (grownCap w s.size 0 5)) (uv s.data.toList) := by
  have hl : (uv s.data.toList).length = s.size := by rw [uv_len]; simp
  refine ⟨_, _, by rw [hl], by rw [hl]; exact grownCap_ge _ _ _ _, ?_, .inr ⟨w.heap.size, 0, rfl, fun k v hv => ?_⟩⟩
  · have := grownCap_le_maxLen w s.size 0 5 hs
    unfold maxLen at this
    omega
  · have hk : k < s.size := by rw [← hl]; exact (List.getElem?_eq_some_iff.1 hv).1
    rw [Nat.zero_add, Lib.bytesWorld_cell w 5 s k hk, ← hv]
    have hk2 : k < s.data.toList.length := by simpa using hk
    unfold uv
    rw [List.getElem?_map, List.getElem?_eq_getElem hk2, List.getD_eq_getElem?_getD, List.getElem?_eq_getElem hk2]
    rfl
theorem below_conv (w : World) (s : ByteArray) : Below w.heap.size w (Lib.bytesWorld w 5 s) := ⟨rfl, rfl, rfl, by rw [Lib.bytesWorld_size]; omega, fun k hk => Lib.bytesWorld_at_old w 5 s k hk⟩
end
def InoG (f f' : Ino) : Prop := f.gen < f'.gen ∨ (f'.gen = f.gen ∧ f.bs <+: f'.bs)
theorem InoG.rfl' (f : Ino) : InoG f f := .inr ⟨rfl, List.prefix_refl _⟩
theorem InoG.trans {f g h : Ino} (a : InoG f g) (b : InoG g h) : InoG f h := by
  rcases a with a | ⟨a, a2⟩ <;> rcases b with b | ⟨b, b2⟩
  · exact .inl (by omega)
  · exact .inl (by omega)
  · exact .inl (by omega)
  · exact .inr ⟨by omega, a2.trans b2⟩
theorem InoG.shorten (f : Ino) (n : Nat) : InoG f (f.shorten n) := by
  unfold Ino.shorten
  split
  · exact InoG.rfl' f
  · exact .inl (Nat.lt_succ_self _)
theorem InoG.sync (f : Ino) : InoG f f.sync := .inr ⟨rfl, List.prefix_refl _⟩
theorem InoG.name (f : Ino) (s : ByteArray) : InoG f (f.name s) := .inr ⟨rfl, List.prefix_refl _⟩
theorem InoG.crash (f : Ino) (k : Int) : InoG f (f.crash k) := (InoG.shorten f _).trans (InoG.sync _)
theorem InoG.lay (f : Ino) (b : List UInt8) : InoG f (f.lay b) := .inr ⟨rfl, List.prefix_append _ _⟩
def DkG (d d' : Dk) : Prop := ∀ n f', d'.ino n = some f' → ∃ f, d.ino n = some f ∧ InoG f f'
theorem DkG.rfl' (d : Dk) : DkG d d := fun _ f' h => ⟨f', h, InoG.rfl' f'⟩
theorem DkG.trans {d e g : Dk} (a : DkG d e) (b : DkG e g) : DkG d g := fun n f' h => by
  obtain ⟨f, hf, x⟩ := b n f' h
  obtain ⟨f0, hf0, y⟩ := a n f hf
  exact ⟨f0, hf0, y.trans x⟩
theorem DkG.putI {d : Dk} {n : Nat} {f f' : Ino} (h : d.ino n = some f) (hg : InoG f f') : DkG d (Sf.putI d n (some f')) := fun m g x => by
  by_cases e : m = n
  · subst e
    simp [Sf.putI] at x
    subst x
    exact ⟨f, h, hg⟩
  · exact ⟨g, by simpa [Sf.putI, e] using x, InoG.rfl' g⟩
theorem DkG.drop (d : Dk) (n : Nat) (f : Ino) : DkG d (Sf.drop d n f) := fun m g x => by
  by_cases e : m = n
  · subst e; simp [Sf.drop, Sf.putI] at x
  · exact ⟨g, by simpa [Sf.drop, Sf.putI, Sf.putL, e] using x, InoG.rfl' g⟩
theorem DkG.gone (d : Dk) (s : ByteArray) : DkG d (Sf.gone d s) := by
  unfold Sf.gone
  split
  · exact DkG.rfl' d
  · split
    · exact DkG.drop d _ _
    · exact DkG.rfl' d
theorem DkG.crStep (keep : List Int) (s : Nat × Dk) (n : Nat) : DkG s.2 (Sf.crStep keep s n).2 := by
  unfold Sf.crStep
  split
  · exact DkG.rfl' _
  · rename_i f hf
    split
    · exact DkG.rfl' _
    · exact DkG.putI hf (InoG.crash f _)
theorem DkG.fold (keep : List Int) : ∀ (l : List Nat) (s : Nat × Dk), DkG s.2 (l.foldl (Sf.crStep keep) s).2 ∧ (l.foldl (Sf.crStep keep) s).2.hi = s.2.hi ∧ (l.foldl (Sf.crStep keep) s).2.lab = s.2.lab
  | [], s => ⟨DkG.rfl' _, rfl, rfl⟩
  | n :: l, s => by
    obtain ⟨a, b, c⟩ := DkG.fold keep l (Sf.crStep keep s n)
    have x := crStep_lab (keep := keep) s n
    exact ⟨(DkG.crStep keep s n).trans a, b.trans x.2.1, c.trans x.1⟩
theorem crash_hi (d : Dk) (keep : List Int) : (Sf.crash d keep).hi = d.hi := (DkG.fold keep _ (0, d)).2.1
theorem crash_lab (d : Dk) (keep : List Int) : (Sf.crash d keep).lab = d.lab := (DkG.fold keep _ (0, d)).2.2
theorem DkG.crash (d : Dk) (keep : List Int) : DkG d (Sf.crash d keep) := (DkG.fold keep _ (0, d)).1
theorem ser_drop (d : Dk) (n : Nat) (f : Ino) (s : ByteArray) : ser (Sf.drop d n f) s = ser d s := by
  by_cases e : s = f.nm
  · subst e; simp [ser, Sf.drop, Sf.putI, Sf.putL]
  · simp [ser, Sf.drop, Sf.putI, Sf.putL, e]
theorem DkG.rename {d : Dk} {K : Nat} (h : Wf d K) {a b : ByteArray} (hn : num d a ≠ 0) (hab : a ≠ b) : DkG d (Sf.rename d a b) ∧ (Sf.rename d a b).hi = d.hi ∧ (Sf.rename d a b).lab b = some (ser d b + 1, num d a) := by
  obtain ⟨f, hf, hfa⟩ := h.numF hn
  obtain ⟨g1, g2, g3, g4, g5, g6⟩ := h.gone b
  have hba : b ≠ a := fun x => hab x.symm
  unfold Sf.rename
  rw [hf]
  refine ⟨fun m g x => ?_, g5, ?_⟩
  · by_cases e : m = num d a
    · subst e
      simp [Sf.arrive, Sf.putI] at x
      subst x
      exact ⟨f, hf, InoG.name f b⟩
    · exact DkG.gone d b m g (by simpa [Sf.arrive, Sf.putI, Sf.putL, e] using x)
  · have e2 : ser (Sf.putL (Sf.gone d b) a (ser (Sf.gone d b) a) 0) b = ser d b := by
      rw [← g6]; simp [ser, Sf.putL, hba]
    simp [Sf.arrive, Sf.putI, Sf.putL]
    rw [← e2]
    rfl
theorem err_141 {d : Dk} {s : ByteArray} (h : err d s = 141) : may s = true ∧ num d s = 0 := by
  unfold err at h
  cases x : may s with
  | false => rw [x] at h; simp at h
  | true =>
    rw [x, if_pos rfl] at h
    refine ⟨rfl, Classical.byContradiction fun y => ?_⟩
    rw [if_neg y] at h
    omega

/-- what an event leaves: inodes only grow, no elder one comes back -/
structure Grow (d d' : Dk) : Prop where
  hi : d.hi ≤ d'.hi
  grow : ∀ n f', d'.ino n = some f' → n ≤ d.hi → ∃ f, d.ino n = some f ∧ InoG f f'
theorem Grow.refl (d : Dk) : Grow d d := ⟨Nat.le_refl _, fun _ f' h _ => ⟨f', h, InoG.rfl' f'⟩⟩
theorem Grow.of {d d' : Dk} (h : DkG d d') (hh : d'.hi = d.hi) : Grow d d' := ⟨by omega, fun n f' x _ => h n f' x⟩
theorem Grow.trans {a b c : Dk} (h : Grow a b) (h2 : Grow b c) : Grow a c := ⟨Nat.le_trans h.hi h2.hi, fun n f' x hn => by
  obtain ⟨f, hf, y⟩ := h2.grow n f' x (Nat.le_trans hn h.hi)
  obtain ⟨f0, hf0, z⟩ := h.grow n f hf hn
  exact ⟨f0, hf0, z.trans y⟩⟩
theorem doE_grow {d : Dk} {K : Nat} (h : Wf d K) (o : Evt) : Grow d (doE d o) := by
  have hin : err d o.a = 0 → ∃ f, d.ino (num d o.a) = some f := fun he => by
    obtain ⟨f, hf, _⟩ := h.numF (err_zero he).2
    exact ⟨f, hf⟩
  unfold doE
  repeat' split
  · refine ⟨Nat.le_succ _, fun n f' x hn => ⟨f', ?_, InoG.rfl' f'⟩⟩
    have e : n ≠ d.hi + 1 := by omega
    simpa [Sf.create, Sf.arrive, Sf.putI, Sf.putL, Sf.up, e] using x
  · exact Grow.refl d
  · rename_i he
    obtain ⟨f, hf⟩ := hin he
    unfold layN
    rw [hf]
    simp only
    split
    · exact Grow.of (DkG.putI hf (InoG.lay f _)) rfl
    · exact Grow.refl d
  · exact Grow.refl d
  · rename_i he
    obtain ⟨f, hf⟩ := hin he
    unfold onI
    rw [hf]
    exact Grow.of (DkG.putI hf (InoG.shorten f 0)) rfl
  · exact Grow.refl d
  · rename_i he
    obtain ⟨e1, e2⟩ := renE_zero he.1
    obtain ⟨a, b, c⟩ := DkG.rename h (err_zero e1).2 he.2
    exact Grow.of a b
  · exact Grow.refl d
  · rename_i he
    obtain ⟨f, hf⟩ := hin he
    unfold dropN
    rw [hf]
    exact Grow.of (DkG.drop d _ f) rfl
  · exact Grow.refl d
  · rename_i he
    obtain ⟨f, hf⟩ := hin he
    unfold onI
    rw [hf]
    exact Grow.of (DkG.putI hf (InoG.sync f)) rfl
  · exact Grow.refl d
  · exact Grow.of (DkG.crash d _) (crash_hi d _)
  · exact Grow.refl d
theorem infI : (Try.prog.info? 3).map (fun i => (i.zero, i.size, i.bytes)) = some (some (.int .i64 0), 1, 8) := by kernel_rfl
theorem lx_own {P : Nat → Prop} {w1 w3 : World} {V : Value} {n : Nat} {xs : List Value} (h : w3.ownsRow w1.heap.size 3 1 V n xs) (hp : ∀ k, P k → k < w1.heap.size) : LAtX (fun k => ¬ P k) w3 V xs := by
  refine ⟨owns_lat h, fun b off n' c e _ hb => ?_⟩
  have := hp b hb
  rcases h.2 with ⟨e2, _⟩ | ⟨g, cap, cur, e2, hg, _⟩
  · rw [e] at e2; cases e2
  · rw [e] at e2
    cases e2
    omega
end Go.Proofs.Ytpikepifhnkmkaa
