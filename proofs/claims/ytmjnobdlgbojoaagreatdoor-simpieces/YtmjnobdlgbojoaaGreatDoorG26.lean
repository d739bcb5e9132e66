
import Derived.Test.YtmjnobdlgbojoaaGreatDoorG25
namespace Go.Proofs.YtmjnobdlgbojoaaGreatDoor
open Go.RowKit Go.Shelf
attribute [local go_sem] Oper.semAt_some
def leads (b s : Nat) (y : Eg) : Bool := decide (y.k = 2) && y.s b && decide (y.t.toNat = s)
def nx (es : List Eg) (b : Nat) (l : List Nat) : Oct.S := fun s => l.any fun q => (fromE es ((q : Nat) : Int)).any (leads b s)
def nxj (es : List Eg) (b : Nat) (l : List Nat) (ys : List Eg) : Oct.S := fun s => nx es b l s || ys.any (leads b s)
theorem nx_nil (es : List Eg) (b : Nat) : nx es b [] = Oct.none := by funext s; rfl
theorem nxj_nil (es : List Eg) (b : Nat) (l : List Nat) : nxj es b l [] = nx es b l := by funext s; simp [nxj]
theorem nxj_all (es : List Eg) (b : Nat) (l : List Nat) (q : Nat) : nxj es b l (fromE es ((q : Nat) : Int)) = nx es b (l ++ [q]) := by funext s; simp [nxj, nx]
theorem nxj_skip {es : List Eg} {b : Nat} {l : List Nat} {ys : List Eg} {y : Eg} (h : y.k ≠ 2 ∨ y.s b = false) : nxj es b l (ys ++ [y]) = nxj es b l ys := by
  funext s
  have : leads b s y = false := by
    unfold leads
    rcases h with h | h <;> simp [h]
  simp [nxj, this]
theorem nxj_add {es : List Eg} {b : Nat} {l : List Nat} {ys : List Eg} {y : Eg} (h : y.k = 2) (h2 : y.s b = true) : nxj es b l (ys ++ [y]) = Oct.ins (nxj es b l ys) y.t.toNat := by
  funext s
  have : leads b s y = decide (y.t.toNat = s) := by unfold leads; simp [h, h2]
  unfold Oct.ins nxj
  rw [List.any_append, Bool.eq_iff_iff]
  simp [this]
  constructor
  · rintro (h | h | h)
    · exact Or.inr (Or.inl h)
    · exact Or.inr (Or.inr h)
    · exact Or.inl h.symm
  · rintro (h | h | h)
    · exact Or.inr (Or.inr h.symm)
    · exact Or.inl h
    · exact Or.inr (Or.inl h)
theorem nx_next {es : List Eg} {b S : Nat} {g : Oct.S} (hg : ∀ s, g s = true → s < S) (hes : ∀ y ∈ es, 0 ≤ y.f) : Oct.ins (nx es b (Oct.els g S)) 0 = nextS es b g := by
  funext s
  unfold Oct.ins nextS nx
  rw [Bool.eq_iff_iff]
  simp only [Bool.or_eq_true, beq_iff_eq, decide_eq_true_eq, List.any_eq_true, leads, Bool.and_eq_true]
  constructor
  · rintro (h | ⟨q, hq, y, hy, ⟨h1, h2⟩, h3⟩)
    · exact Or.inl h
    · obtain ⟨hy1, hy2⟩ := mem_fromE.1 hy
      exact Or.inr ⟨y, hy1, ⟨⟨h1, by rw [hy2]; exact (Oct.mem_els.1 hq).2⟩, h2⟩, h3⟩
  · rintro (h | ⟨y, hy, ⟨⟨h1, h2⟩, h3⟩, h4⟩)
    · exact Or.inl h
    · exact Or.inr ⟨y.f.toNat, Oct.mem_els.2 ⟨hg _ h2, h2⟩, y, mem_fromE.2 ⟨hy, by have := hes y hy; omega⟩, ⟨h1, h3⟩, h4⟩
theorem nx_lt {es : List Eg} {b S : Nat} {l : List Nat} (he : ∀ y ∈ es, 0 ≤ y.t ∧ y.t < (S : Int)) {s : Nat} (h : nx es b l s = true) : s < S ∧ ∃ y ∈ es, y.t.toNat = s := by
  unfold nx at h
  simp only [List.any_eq_true, leads, Bool.and_eq_true, decide_eq_true_eq] at h
  obtain ⟨q, _, y, hy, _, h3⟩ := h
  have h4 := he y (mem_fromE.1 hy).1
  exact ⟨by omega, y, (mem_fromE.1 hy).1, h3⟩
structure Bs (H Q Wb b R n : Nat) (W : World) (cur : Oct.S) : Prop where
  b2 : Boxed W H 48 (.pointer (some ⟨Wb, 0, none⟩))
  b3 : Boxed W (H + 1) 5 (.int .u8 (b : Nat))
  b4 : Boxed W Q 74 (.slice (some ⟨R, 0, none⟩) n n)
  row : RowG W H R n n cur
theorem Bs.keep {H Q Wb b R n : Nat} {W W' : World} {cur : Oct.S} (h : Bs H Q Wb b R n W cur) {row : Option Nat} (hg : W.grownBy W' row) (h2 : some H ≠ row) (h3 : some (H + 1) ≠ row) (h4 : some Q ≠ row) (hR : some R ≠ row) : Bs H Q Wb b R n W' cur :=
  ⟨h.b2.kept hg h2, h.b3.kept hg h3, h.b4.kept hg h4, h.row.same (hg.block R h.row.lt.1 hR)⟩
theorem row_ne {W : World} {base R n c : Nat} {g : Oct.S} {row : Option Nat} (h : RowG W base R n c g) (hr : ∀ r, row = some r → ∃ o : Obj, W.heap[r]? = some o ∧ o.isCells = false) : some R ≠ row := by
  intro e
  obtain ⟨o, ho, hc⟩ := hr R e.symm
  obtain ⟨cc, z, hz⟩ := h.ty
  rw [hz] at ho
  cases ho
  simp [Obj.isCells] at hc
end Go.Proofs.YtmjnobdlgbojoaaGreatDoor
