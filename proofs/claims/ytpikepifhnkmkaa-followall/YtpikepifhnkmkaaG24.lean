/- The numbers of a disk's inodes, rising: maps.Keys, slices.Sorted. -/
import Derived.Test.YtpikepifhnkmkaaG21
import Derived.Test.YtpikepifhnkmkaaG23
namespace Go.Proofs.Ytpikepifhnkmkaa
open Go.RowKit Go.Maps Sf Go.Sort Go.Shelf

theorem sortsA (m : Nat) : AnyZI.SortsIn Try.prog Try.sortedA_ren Fence.wide m :=
  ⟨fun blk off cap ss W hH hblk hsz => callsIn_wide.2 (AnyM.slices_Sort_int Try.sortA blk off cap ss W hH hblk hsz),
   fun p cap W => callsIn_wide.2 (AnyM.slices_Sort_int_none Try.sortA p cap W)⟩
theorem keys_any (b : Nat) (w : World) : Calls Try.prog 61 #[.map (some b)] w fun e w' => e = .returned (.func (.func 68) #[] #[.pointer (some ⟨w.heap.size, 0, none⟩)]) ∧ w' = w.alloc (.cells #[.map (some b)] 59) :=
  (callsIn_wide (n := 5)).1 (AnyZI.keys_in Try.keysA Fence.wide 5 trivial rfl (some b) w)
set_option maxHeartbeats 1000000 in
theorem sorted_any {b nn : Nat} {D0 : DataW Value} (w : World) (hown : w.ownsMap Try.prog 3 rawR b nn D0) (hmax : Maps.size D0 ≤ maxLen) (hbytes : Maps.size D0 * 8 ≤ 140737488355328) :
    Calls Try.prog 60 #[.func (.func 68) #[] #[.pointer (some ⟨w.heap.size, 0, none⟩)]] (w.alloc (.cells #[.map (some b)] 59)) fun e w' => ∃ (v : Value) (ss : List Int), e = .returned v ∧ ss.Perm (intKeys D0) ∧
      w'.ownsRow (w.alloc (.cells #[.map (some b)] 59)).heap.size 3 1 v ss.length ((ss.mergeSort (fun x y => decide (x ≤ y))).map encZ) ∧ Below (w.alloc (.cells #[.map (some b)] 59)).heap.size (w.alloc (.cells #[.map (some b)] 59)) w' := by
  refine (callsIn_wide (n := 5)).1 ?_
  have hbl := hown.lt
  have hseq : SeqGives Fence.wide 2 Try.prog 68 #[.pointer (some ⟨w.heap.size, 0, none⟩)] encZ (fun ss => ss.Perm (intKeys D0)) (Maps.size D0) (w.alloc (.cells #[.map (some b)] 59)) :=
    AnyZI.keys_gives (ρ := Try.keysA_ren) { Try.keysA with } Fence.wide _ trivial rfl (by omega) w.heap.size b nn D0 _ (by simp) (by simp) (by
      obtain ⟨es, clock, hb, Ft, hs, hD⟩ := hown
      exact ⟨es, clock, (Below.heap_alloc _ _ b hbl).trans hb, Ft, hs, hD⟩)
  have cS := AnyZI.sorted_in Try.sortedA Fence.wide 5 trivial trivial trivial trivial rfl (by omega) (sortsA _) (enters_of Try.func67 (by kernel_rfl) rfl) 68 #[.pointer (some ⟨w.heap.size, 0, none⟩)] trivial (enters_of Try.func68 (by kernel_rfl) rfl) _ _ hmax hbytes _ hseq
  change CallsIn _ _ Try.prog 60 _ _ _ at cS
  refine cS.mono ?_
  rintro e w' ⟨v, ss, rfl, h1, h2, h3, h4⟩
  exact ⟨v, ss, rfl, h1, h2, h4⟩
/-! ### the list -/
theorem klitI {z : Int} (h : goodI z) : klit 3 kvI z = .int .i64 z := by
  have hk := keyI z h
  obtain ⟨x, h1, h2, _⟩ := Maps.keyOf_i64 Try.underlying3 hk
  have e : z = x := by unfold kvI at h1; exact encZ_inj h1
  rw [h2, e]
theorem keysUp_mem {d : Dk} {n : Nat} : n ∈ keysUp d ↔ n ≤ d.hi ∧ (d.ino n).isSome = true := by
  unfold keysUp
  rw [List.mem_filter, List.mem_range, Nat.lt_succ_iff]
theorem keysUp_pair (d : Dk) : (keysUp d).Pairwise (· < ·) := List.Pairwise.filter _ List.pairwise_lt_range
theorem keysUp_len (d : Dk) : (keysUp d).length ≤ d.hi + 1 := by
  have := List.length_filter_le (fun n => (d.ino n).isSome) (List.range (d.hi + 1))
  rw [List.length_range] at this
  exact this
theorem wf_i64 {z : Int} (h : (Lit.int .i64 z).wf = true) : goodI z := by
  simp [Lit.wf, IntKind.min, IntKind.max, IntKind.signed, IntKind.bits] at h
  unfold goodI
  omega
/-- the map's keys are the inodes' numbers -/
theorem keys_perm {w : World} {K : Nat} {d : Dk} {L : Lay} (hW : Wf d K) (hK : K ≤ 1000000) {D : DataW Value} (hD : w.ownsMap Try.prog 3 rawR L.mi L.ci D) (hF : ∀ k, goodI k → Maps.has D (klit 3 kvI k) = (L.ino d k).isSome) : ((keysUp d).map fun n => ((n : Nat) : Int)).Perm (intKeys D) := by
  obtain ⟨es, hDe, hpw, _⟩ := hD.entries lawI
  obtain ⟨es', hDe', hk⟩ := hD.keysOf
  subst hDe
  cases hDe'
  have hk2 : ∀ p ∈ es, ∃ x, p.1 = .int .i64 x ∧ goodI x := fun p hp => by
    obtain ⟨key, hkey⟩ := hk p hp
    obtain ⟨x, h1, h2, h3⟩ := Maps.keyOf_i64 Try.underlying3 hkey
    exact ⟨x, h2, wf_i64 h3⟩
  refine perm_intKeys hpw (fun p hp => by obtain ⟨x, h, _⟩ := hk2 p hp; exact ⟨x, h⟩) ?_ (fun x => ?_)
  · refine List.Pairwise.map _ (fun a b h e => ?_) (keysUp_pair d)
    have : a = b := Int.ofNat.inj e
    omega
  · constructor
    · intro hx
      obtain ⟨n, hn, rfl⟩ := List.mem_map.1 hx
      obtain ⟨h1, h2⟩ := keysUp_mem.1 hn
      have hg : goodI ((n : Nat) : Int) := by unfold goodI; have := hW.hi; omega
      rw [← klitI hg, hF _ hg]
      unfold Lay.ino
      rw [if_pos (by omega), Int.toNat_natCast, Option.isSome_map]
      exact h2
    · intro hx
      rw [has_eq, List.any_eq_true] at hx
      obtain ⟨p, hp, hs⟩ := hx
      obtain ⟨y, hy, hg⟩ := hk2 p hp
      have exy : y = x := by rw [hy] at hs; simpa [Lit.sameKey] using hs
      subst exy
      have h1 := hF y hg
      rw [klitI hg, has_eq, List.any_eq_true.2 ⟨p, hp, hs⟩] at h1
      unfold Lay.ino at h1
      by_cases h0 : 0 ≤ y
      · rw [if_pos h0, Option.isSome_map] at h1
        refine List.mem_map.2 ⟨y.toNat, keysUp_mem.2 ⟨?_, h1.symm⟩, by omega⟩
        obtain ⟨f, hf⟩ := Option.isSome_iff_exists.1 h1.symm
        exact (hW.ino _ f hf).2.1
      · rw [if_neg h0] at h1
        cases h1
theorem keys_sort {d : Dk} {D : DataW Value} {ss : List Int} (h : ((keysUp d).map fun n => ((n : Nat) : Int)).Perm (intKeys D)) (hs : ss.Perm (intKeys D)) : ss.mergeSort (fun x y => decide (x ≤ y)) = (keysUp d).map (fun n => ((n : Nat) : Int)) ∧ ss.length = (keysUp d).length := by
  have e := mergeSort_of_perm_i (hs.trans h.symm)
  have e2 : ((keysUp d).map fun n => ((n : Nat) : Int)).mergeSort leI = (keysUp d).map fun n => ((n : Nat) : Int) := by
    refine List.mergeSort_of_pairwise ?_
    refine List.Pairwise.map _ (fun a b h => ?_) (keysUp_pair d)
    simp only [leI, decide_eq_true_eq]
    omega
  refine ⟨e.trans e2, ?_⟩
  have := (hs.trans h.symm).length_eq
  rw [List.length_map] at this
  exact this
end Go.Proofs.Ytpikepifhnkmkaa
