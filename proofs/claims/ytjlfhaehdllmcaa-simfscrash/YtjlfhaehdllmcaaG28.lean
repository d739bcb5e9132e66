/- simfs: Copy: what it holds between two inodes, between two names. -/
import Derived.Test.YtjlfhaehdllmcaaG27
namespace Go.Proofs.Ytjlfhaehdllmcaa
open Go.RowKit Go.Maps Sf

theorem DkAt.hiTo {P : Nat → Prop} {w : World} {B : Nat} {d : Dk} {L : Lay} (h : DkAt P w B d L) (x : Nat) : DkAt P (w.setCell ⟨B, 0, none⟩ (.int .i64 (x : Nat))) B ⟨x, d.ino, d.lab⟩ L := by
  have e : ∀ k, k ≠ B → (w.setCell ⟨B, 0, none⟩ (.int .i64 (x : Nat))).heap[k]? = w.heap[k]? := fun k hk => Below.heap_setCell w ⟨B, 0, none⟩ _ k hk
  have ne : ∀ {t : TypeId} {k : Nat}, TyB w t k → t ≠ 58 → (w.setCell ⟨B, 0, none⟩ (.int .i64 (x : Nat))).heap[k]? = w.heap[k]? := fun {t k} hk h1 => e k (fun x => by subst x; exact h1 (TyB.ne hk h.tyB))
  have nm : ∀ {k : Nat} {es : Array MapEntry} {c : Nat}, w.heap[k]? = some (.map es c) → (w.setCell ⟨B, 0, none⟩ (.int .i64 (x : Nat))).heap[k]? = w.heap[k]? := fun {k es c} hk => e k (fun x => by subst x; exact map_ty hk h.tyB)
  refine ⟨by rw [heap_set h.db]; simp, ?_, ?_, fun m g hg => ?_, fun t r hr => (ne (h.lb t r hr).ty (by decide)).trans (h.lb t r hr), h.pB, h.pI, h.pL, fun k hp => by have := h.low k hp; simpa using this, h.aI, h.aL, h.mm⟩
  · obtain ⟨es, c, hm⟩ := h.im.isMap
    exact h.im.same (nm hm)
  · obtain ⟨es, c, hm⟩ := h.nm.isMap
    exact h.nm.same (nm hm)
  · have hm := h.ib m g hg
    exact hm.keep (ne hm.ty (by decide)) (fun b hb _ => ne (hm.v.ty hb).1 (by decide))
/-- a disk with its first i inodes, and no name -/
def cpI (d : Dk) (i : Nat) : Dk := ⟨d.hi, fun m => if m ∈ (keysUp d).take i then d.ino m else none, fun _ => none⟩
theorem cpI_succ {d : Dk} {i n : Nat} {f : Ino} (h : (keysUp d)[i]? = some n) (hf : d.ino n = some f) : Sf.putI (cpI d i) n (some f) = cpI d (i + 1) := by
  unfold Sf.putI cpI
  congr 1
  funext m
  obtain ⟨hl, e⟩ := List.getElem?_eq_some_iff.1 h
  have ht : (keysUp d).take (i + 1) = (keysUp d).take i ++ [n] := by rw [List.take_succ_eq_append_getElem hl, e]
  rw [ht]
  by_cases hm : m = n
  · subst hm; simp [hf]
  · simp [hm]
theorem cpI_all {d : Dk} {K : Nat} (h : Wf d K) : cpI d (keysUp d).length = ⟨d.hi, d.ino, fun _ => none⟩ := by
  unfold cpI
  congr 1
  funext m
  rw [List.take_length]
  by_cases hm : m ∈ keysUp d
  · rw [if_pos hm]
  · rw [if_neg hm]
    cases x : d.ino m with
    | none => rfl
    | some f => exact absurd (keysUp_mem.2 ⟨(h.ino m f x).2.1, by rw [x]; rfl⟩) hm
structure CpI (w w3 : World) (P2 : Nat → Prop) (B2 Bo M2 N2 : Nat) (d : Dk) (i : Nat) (u : World) : Prop where
  ot : ∃ L2, DkAt (More P2 w3 u) u B2 (cpI d i) L2 ∧ L2.mi = M2 ∧ L2.mn = N2 ∧ L2.ci ≤ i ∧ L2.cn = 0
  bo : BoxAt u Bo (.pointer (some ⟨B2, 0, none⟩)) 24
  lo : Below w.heap.size w u
  sz : w3.heap.size ≤ u.heap.size
  il : i ≤ (keysUp d).length
theorem cpi_step {P P2 : Nat → Prop} {w w3 : World} {B B2 Bo M2 N2 K : Nat} {d : Dk} {L : Lay} (hW : Wf d K) (hK : K ≤ 1000000) (hL : DkAt P w B d L) (hM : M2 < w3.heap.size ∧ w.heap.size ≤ M2 ∧ Bo < w3.heap.size) (hp2 : ∀ k, P2 k → k < w3.heap.size) {i n : Nat} {u : World} (hn : (keysUp d)[i]? = some n) (h : CpI w w3 P2 B2 Bo M2 N2 d i u) :
    Calls Try.prog 29 #[.pointer (some ⟨L.ai n, 0, none⟩), .pointer (some ⟨Bo, 0, none⟩)] u fun e u' => e = .returned (.tuple #[]) ∧ CpI w w3 P2 B2 Bo M2 N2 d (i + 1) u' ∧ u.heap.size ≤ u'.heap.size ∧ ∀ k, w3.heap.size ≤ k → k < u.heap.size → u'.heap[k]? = u.heap[k]? := by
  obtain ⟨L2, h2, e1, e2, e3, e4⟩ := h.ot
  obtain ⟨f, hf⟩ := Option.isSome_iff_exists.1 (keysUp_mem.1 (List.mem_of_getElem? hn)).2
  have hfd := hW.ino n f hf
  have hib := (hL.later h.lo).ib n f hf
  have hhi := hW.hi
  have hil : i < (keysUp d).length := (List.getElem?_eq_some_iff.1 hn).1
  have hkl := keysUp_len d
  refine (copy1_any hib hfd.2.2.2.2.2.1 (by omega) h.bo h2 (by unfold cpI; simp only; rw [if_neg (not_take hn)]) (by omega)).mono ?_
  rintro e u' ⟨rfl, A, V', h3, hfr⟩
  have hs := hfr.size
  have hz := h.sz
  have hkeep : ∀ k, k < u.heap.size → k ≠ M2 → u'.heap[k]? = u.heap[k]? := fun k hk hne => hfr.block k hk (fun x => hne (x.trans e1))
  have hMB : M2 ≠ Bo := fun x => by
    obtain ⟨es, c, hm⟩ := h2.im.isMap
    rw [e1, x] at hm
    exact map_ty hm ⟨_, _, h.bo⟩
  rw [cpI_succ hn hf] at h3
  have h3' := h3.less hz hs hp2
  refine ⟨rfl, ⟨⟨_, h3', e1, e2, by show L2.ci + 1 ≤ i + 1; omega, e4⟩, (hkeep Bo h.bo.lt (fun x => hMB x.symm)).trans h.bo, ?_, by omega, hil⟩, hs, fun k h1 h2 => hkeep k h2 (by omega)⟩
  exact ⟨hfr.os.trans h.lo.os, hfr.tape.trans h.lo.tape, hfr.output.trans h.lo.output, Nat.le_trans h.lo.size hs, fun k hk => (hkeep k (by have := h.lo.size; omega) (by omega)).trans (h.lo.block k hk)⟩
theorem size_le {w : World} {kt : TypeId} {b n : Nat} {D : DataW Value} (h : w.ownsMap Try.prog kt rawR b n D) : Maps.size D ≤ n := by
  obtain ⟨es, clock, hb, F, hs, rfl⟩ := h
  rw [size_eq, length_sorted]
  simpa using hs
/-! ### the names -/
/-- those labels that are no longer to come -/
def cpL (d : Dk) (left : Lit → Bool) : Dk := ⟨d.hi, d.ino, fun s => if left (.string s.data.toList) then none else d.lab s⟩
theorem klitS {s : ByteArray} (h : goodS s) : klit 9 kvS s = .string s.data.toList := by
  obtain ⟨x, h1, h2, _⟩ := Maps.keyOf_str Try.underlying9 (keyS s h)
  have e : s.data.toList = x := by
    unfold kvS encStr at h1
    have := Value.string.inj h1
    rw [this]
  rw [h2, e]
structure CpN (w w3 : World) (P2 : Nat → Prop) (B2 Bo N2 r : Nat) (d : Dk) (L : Lay) (D : DataW Value) (u : World) (left : Lit → Bool) (cnt : Nat) : Prop where
  rg : u.ranges Try.prog 9 rawR L.mn r L.cn D left cnt
  ot : ∃ L2, DkAt (fun k => More P2 w3 u k ∧ k ≠ r) u B2 (cpL d left) L2 ∧ L2.mn = N2 ∧ L2.ci ≤ L.ci ∧ L2.cn + cnt ≤ L.cn
  bo : BoxAt u Bo (.pointer (some ⟨B2, 0, none⟩)) 24
  lo : Below w.heap.size w u
  sz : w3.heap.size ≤ u.heap.size
  rl : w3.heap.size ≤ r
end Go.Proofs.Ytjlfhaehdllmcaa
