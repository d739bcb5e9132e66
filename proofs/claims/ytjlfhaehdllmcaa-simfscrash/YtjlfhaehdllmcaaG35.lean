/- Plain: what a crash leaves. -/
import Derived.Test.YtjlfhaehdllmcaaG34
import Derived.Test.YtjlfhaehdllmcaaG26
namespace Go.Proofs.Ytjlfhaehdllmcaa
open Go.RowKit Sf
section
variable {d : Dk} {K : Nat} {keep : List Int}
theorem ino_crash_synced {f : Ino} (h : f.ls = f.bs.length) (k : Int) : f.crash k = f := by
  have h1 : f.stay k = 0 := by unfold Ino.stay; omega
  unfold Ino.crash
  rw [h1, Nat.add_zero, h]
  unfold Ino.shorten Ino.sync
  rw [if_pos rfl]
  cases f
  simp only at h
  rw [h]
theorem ino_crash_sync (f : Ino) (k : Int) : (f.crash k).ls = (f.crash k).bs.length := rfl
theorem crSt_after {n i : Nat} (hn : (keysUp d)[i]? = some n) : ∀ j, i + 1 ≤ j → j ≤ (keysUp d).length → (crSt keep d j).2.ino n = (crSt keep d (i + 1)).2.ino n
  | 0, h, _ => by omega
  | j + 1, h, hj => by
    by_cases e : j = i
    · rw [e]
    · obtain ⟨m, hm⟩ : ∃ m, (keysUp d)[j]? = some m := ⟨_, List.getElem?_eq_getElem (by omega)⟩
      rw [crSt_succ hm, (crStep_lab (keep := keep) (crSt keep d j) m).2.2.2 n ?_]
      · exact crSt_after hn j (by omega) (by omega)
      · obtain ⟨l1, e1⟩ := List.getElem?_eq_some_iff.1 hn
        obtain ⟨l2, e2⟩ := List.getElem?_eq_some_iff.1 hm
        have := List.pairwise_iff_getElem.1 (keysUp_lt d) i j l1 l2 (by omega)
        omega
theorem keysUp_len1 (h : Wf d K) : (keysUp d).length ≤ d.hi := by
  have h0 : d.ino 0 = none := by
    cases hd : d.ino 0 with
    | none => rfl
    | some f => have := h.ino 0 f hd; omega
  unfold keysUp
  rw [List.range_succ_eq_map, List.filter_cons, h0]
  have := List.length_filter_le (fun n => (d.ino n).isSome) ((List.range d.hi).map Nat.succ)
  simpa using this
/-- an inode behind a crash -/
theorem crash_some (h : Wf d K) (keep : List Int) {n : Nat} {f : Ino} (hf : d.ino n = some f) : ∃ i, i < d.hi ∧ (Sf.crash d keep).ino n = some (f.crash (keep.getD i 0)) := by
  have hmem : n ∈ keysUp d := List.mem_filter.2 ⟨List.mem_range.2 (by have := h.ino n f hf; omega), by rw [hf]; rfl⟩
  obtain ⟨i, hi⟩ := List.getElem?_of_mem hmem
  have hl := (List.getElem?_eq_some_iff.1 hi).1
  have hk := keysUp_len1 h
  obtain ⟨_, _, hc, hs⟩ := crSt_is (keep := keep) (d := d) i (by omega)
  have hin : (crSt keep d i).2.ino n = some f := by rw [hs n (not_take hi), hf]
  refine ⟨(crSt keep d i).1, by omega, ?_⟩
  rw [crSt_all, crSt_after hi _ (by omega) (Nat.le_refl _), crSt_succ hi]
  unfold crStep
  rw [hin]
  simp only
  by_cases e : f.ls = f.bs.length
  · rw [if_pos e, hin, ino_crash_synced e]
  · rw [if_neg e]
    simp [Sf.putI]
theorem crash_none (keep : List Int) {n : Nat} (hf : d.ino n = none) : (Sf.crash d keep).ino n = none := by
  cases hc : (Sf.crash d keep).ino n with
  | none => rfl
  | some f' =>
    obtain ⟨f, hf2, _⟩ := DkG.crash d keep n f' hc
    rw [hf] at hf2
    cases hf2
def AllSync (d : Dk) : Prop := ∀ n f, d.ino n = some f → f.ls = f.bs.length
theorem crash_sync (h : Wf d K) (keep : List Int) : AllSync (Sf.crash d keep) := fun n g hg => by
  cases hd : d.ino n with
  | none => rw [crash_none keep hd] at hg; cases hg
  | some f =>
    obtain ⟨i, _, e⟩ := crash_some h keep hd
    rw [e] at hg
    cases hg
    rfl
theorem dk_ext {a b : Dk} (h1 : a.hi = b.hi) (h2 : ∀ n, a.ino n = b.ino n) (h3 : a.lab = b.lab) : a = b := by
  obtain ⟨x, y, z⟩ := a
  obtain ⟨x', y', z'⟩ := b
  simp only at h1 h2 h3
  have : y = y' := funext h2
  subst h1 h3 this
  rfl
theorem crash_still (h : Wf d K) (hs : AllSync d) (keep : List Int) : Sf.crash d keep = d := by
  refine dk_ext (crash_hi d keep) (fun n => ?_) (crash_lab d keep)
  cases hd : d.ino n with
  | none => exact crash_none keep hd
  | some f =>
    obtain ⟨i, _, e⟩ := crash_some h keep hd
    rw [e, ino_crash_synced (hs n f hd)]
theorem crash_again (h : Wf d K) (keep keep' : List Int) : Sf.crash (Sf.crash d keep) keep' = Sf.crash d keep := crash_still (h.crash (keep := keep)) (crash_sync h keep) keep'
theorem ino_all {f : Ino} {k : Int} (h1 : f.ls ≤ f.bs.length) (h2 : f.bs.length ≤ 1048576) (hk : 1048576 ≤ k) : f.crash k = f.sync := by
  have h : f.ls + f.stay k = f.bs.length := by unfold Ino.stay; omega
  unfold Ino.crash
  rw [h]
  unfold Ino.shorten
  rw [if_pos rfl]
/-- all kept: nothing goes -/
theorem crash_full (h : Wf d K) {keep : List Int} (hk : ∀ i, i < d.hi → 1048576 ≤ keep.getD i 0) (n : Nat) : fileOf (Sf.crash d keep) n = fileOf d n := by
  unfold fileOf
  cases hd : d.ino n with
  | none => rw [crash_none keep hd]
  | some f =>
    obtain ⟨i, hi, e⟩ := crash_some h keep hd
    have := h.ino n f hd
    rw [e, ino_all this.2.2.2.2.1 this.2.2.2.2.2.1 (hk i hi)]
    simp only [Ino.sync]
    unfold Sf.ser
    rw [crash_lab]
theorem files_full (h : Wf d K) {keep : List Int} (hk : ∀ i, i < d.hi → 1048576 ≤ keep.getD i 0) (m : Nat) : files (Sf.crash d keep) m = files d m := by
  unfold files
  exact List.map_congr_left (fun i _ => crash_full h hk (i + 1))
/-- a crash, as it is seen of one inode -/
structure CrLaw (was is least : Fl) : Prop where
  front : Beg is.b was.b
  syn : Beg least.b is.b
  i : is.i = was.i
  s : is.s = was.s
  z : is.z = is.b.size
  g : (is.b = was.b ∧ is.g = was.g) ∨ (is.b ≠ was.b ∧ is.g = was.g + 1)
theorem ino_crash_bs (f : Ino) (k : Int) : (f.crash k).bs = f.bs.take (f.ls + f.stay k) := by
  unfold Ino.crash Ino.shorten
  split
  · rename_i e
    rw [e, List.take_length]
    rfl
  · rfl
theorem ino_crash_nm (f : Ino) (k : Int) : (f.crash k).nm = f.nm := by
  unfold Ino.crash Ino.shorten
  split <;> rfl
theorem ino_crash_gen {f : Ino} (h : f.ls ≤ f.bs.length) (k : Int) : ((f.crash k).bs = f.bs ∧ (f.crash k).gen = f.gen) ∨ ((f.crash k).bs ≠ f.bs ∧ (f.crash k).gen = f.gen + 1) := by
  by_cases e : f.ls + f.stay k = f.bs.length
  · left
    rw [ino_crash_bs, e, List.take_length]
    refine ⟨rfl, ?_⟩
    unfold Ino.crash Ino.shorten
    rw [if_pos e]
    rfl
  · right
    refine ⟨fun x => ?_, ?_⟩
    · rw [ino_crash_bs] at x
      have := congrArg List.length x
      rw [List.length_take] at this
      have h2 : f.ls + f.stay k ≤ f.bs.length := by unfold Ino.stay; omega
      omega
    · unfold Ino.crash Ino.shorten
      rw [if_neg e]
      rfl
theorem ba_ne {a b : List UInt8} (h : a ≠ b) : (⟨a.toArray⟩ : ByteArray) ≠ ⟨b.toArray⟩ := fun e => h (by
  have := congrArg (fun x : ByteArray => x.data.toList) e
  simpa using this)
theorem cr_law (h : Wf d K) (keep : List Int) (n : Nat) : CrLaw (fileOf d n) (fileOf (Sf.crash d keep) n) (fileOf (Sf.crash d []) n) := by
  unfold fileOf
  cases hd : d.ino n with
  | none =>
    rw [crash_none keep hd, crash_none [] hd]
    have hz : Beg Fl.zero.b Fl.zero.b := ⟨Nat.le_refl _, by decide⟩
    exact ⟨hz, hz, rfl, rfl, rfl, .inl ⟨rfl, rfl⟩⟩
  | some f =>
    obtain ⟨i, hi, e⟩ := crash_some h keep hd
    obtain ⟨i0, hi0, e0⟩ := crash_some h [] hd
    have hf := h.ino n f hd
    rw [e, e0]
    have hs : ∀ k : List Int, Sf.ser (Sf.crash d k) = Sf.ser d := fun k => by funext s; unfold Sf.ser; rw [crash_lab]
    simp only [hs, ino_crash_nm]
    generalize keep.getD i 0 = k
    have hk0 : ([] : List Int).getD i0 0 = 0 := rfl
    rw [hk0]
    refine ⟨?_, ?_, rfl, rfl, ?_, ?_⟩
    · show Beg ⟨(f.crash k).bs.toArray⟩ ⟨f.bs.toArray⟩
      rw [ino_crash_bs]
      exact beg_prefix (List.take_prefix _ _)
    · show Beg ⟨(f.crash 0).bs.toArray⟩ ⟨(f.crash k).bs.toArray⟩
      rw [ino_crash_bs, ino_crash_bs]
      refine beg_prefix ?_
      have h0 : f.stay 0 = 0 := by unfold Ino.stay; omega
      rw [h0, Nat.add_zero]
      rw [show f.bs.take f.ls = (f.bs.take (f.ls + f.stay k)).take f.ls by rw [List.take_take, Nat.min_eq_left (by omega)]]
      exact List.take_prefix _ _
    · show (f.crash k).bs.length = (f.crash k).bs.toArray.size
      simp
    · show ((⟨(f.crash k).bs.toArray⟩ : ByteArray) = ⟨f.bs.toArray⟩ ∧ _) ∨ _
      rcases ino_crash_gen hf.2.2.2.2.1 k with ⟨a, b⟩ | ⟨a, b⟩
      · exact .inl ⟨by rw [a], b⟩
      · exact .inr ⟨ba_ne a, b⟩
theorem crash_isSome (h : Wf d K) (keep : List Int) (n : Nat) : ((Sf.crash d keep).ino n).isSome = (d.ino n).isSome := by
  cases hd : d.ino n with
  | none => rw [crash_none keep hd]
  | some f =>
    obtain ⟨i, _, e⟩ := crash_some h keep hd
    rw [e]
    rfl
/-- the names stay -/
theorem crash_names (h : Wf d K) (keep : List Int) : nmL (Sf.crash d keep) = nmL d := by
  have hk : keysUp (Sf.crash d keep) = keysUp d := by
    unfold keysUp
    rw [crash_hi]
    exact List.filter_congr (fun n _ => crash_isSome h keep n)
  unfold nmL
  rw [hk]
  congr 1
  refine List.map_congr_left (fun n _ => ?_)
  unfold nmZ inoZ
  rw [if_pos (by omega), if_pos (by omega), Int.toNat_natCast]
  cases hd : d.ino n with
  | none => rw [crash_none keep hd]
  | some f =>
    obtain ⟨i, _, e⟩ := crash_some h keep hd
    rw [e]
    simp only [ino_crash_nm]
end
end Go.Proofs.Ytjlfhaehdllmcaa
