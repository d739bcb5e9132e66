/- Pieces (slices of bytes in a slice) that came in: what the walks ask of them; how many bytes they hold, by the second form's bound. -/
import Derived.Test.YtejjnhaadoafpaaDoorOpen
import Derived.Deep.Matrix
namespace Go.Proofs.YtejjnhaadoafpaaDoor
open Go.ChangeShapes Go.WideShapes Go.ChangeAt Go.RowKit Go.Deep

theorem bulk_one {H : Type} (d : DataW H) : 1 ≤ Rows.uptoBulk d := by
  cases d with
  | lit l => cases l <;> simp [Rows.uptoBulk]
  | nil => simp [Rows.uptoBulk]
  | ptr d => simp [Rows.uptoBulk]
  | slice elems spare => simp [Rows.uptoBulk]
  | agg parts => simp [Rows.uptoBulk]
  | iface t d => simp [Rows.uptoBulk]
  | map entries => simp [Rows.uptoBulk]
  | held h => simp [Rows.uptoBulk]
theorem bulk_length {H : Type} (l : List (DataW H)) : l.length ≤ Rows.uptoBulkAll l := by
  induction l with
  | nil => simp [Rows.uptoBulkAll]
  | cons x r ih => have := bulk_one x; simp only [Rows.uptoBulkAll, List.length_cons]; omega
theorem bulk_rows {H : Type} (l : List Nat) (zs : Nat → List Int) (D : Nat → DataW H) (h : ∀ r ∈ l, (zs r).length + 1 ≤ Rows.uptoBulk (D r)) :
    (l.flatMap zs).length + l.length ≤ Rows.uptoBulkAll (l.map D) := by
  induction l with
  | nil => simp [Rows.uptoBulkAll]
  | cons x r ih =>
    have h1 := h x (by simp)
    have h2 := ih (fun y hy => h y (by simp [hy]))
    simp only [List.flatMap_cons, List.length_append, List.length_cons, List.map_cons, Rows.uptoBulkAll]
    omega

theorem open_pieces {H : Type} {enc : TypeId × Value → H} {W : World} {a : Option Addr} {len cap : Nat} {d : DataW H} {p : List MemPlace}
    (h : DataW.Trod enc Tryd.prog W 0 (fun _ => true) true 22 (.slice a len cap) d p) :
    ∃ ps : List Piece, ps.length = len ∧ len ≤ cap ∧ cap ≤ maxLen ∧ PiecesAt W a ps ∧ (∀ q ∈ ps, q.Ok W) ∧ (∀ q ∈ ps, q.zs.length ≤ q.cap ∧ q.cap ≤ maxLen) ∧ (cat ps).length + len ≤ Rows.uptoBulk d := by
  obtain ⟨fuel, hf⟩ := h
  rcases open_int_rows Tryd.underlying22 Tryd.underlying24 Tryd.underlying5 cells24 cells5 hf with ⟨hcs, hx⟩ | ⟨x, l, c, A, L, C, Z, hcs, _, hl, hm, hx, hrow⟩
  · simp [Value.cells] at hcs
    obtain ⟨rfl, rfl, rfl⟩ := hcs
    cases hx
    exact ⟨[], rfl, Nat.le_refl _, Nat.zero_le _, Or.inl rfl, (fun q hq => by cases hq), (fun q hq => by cases hq), by simp [cat, Rows.uptoBulk]⟩
  · simp [Value.cells] at hcs
    obtain ⟨rfl, rfl, rfl⟩ := hcs
    cases hx
    refine ⟨(List.range len).map (fun r => ⟨A r, C r, (Z r).take (L r)⟩), by simp, hl, hm, ?_, ?_, ?_, ?_⟩
    · by_cases h0 : 0 < len
      · obtain ⟨b, off, spot⟩ := x
        have hspot : spot = none := by simpa [Addr.add] using World.cell?_spot (hrow 0 (by omega)).1
        subst hspot
        refine Or.inr ⟨b, off, rfl, fun k hk => ?_⟩
        have hk' : k < len := by simpa using hk
        have hr := hrow k (by omega)
        rw [Go.WideShapes.add_plain] at hr
        rw [hr.1]
        have hz : ((Z k).take (L k)).length = L k := by rw [List.length_take, hr.2.2.2.1]; omega
        simp [List.getD, hk', Piece.val, hz]
      · exact Or.inl (by have : len = 0 := by omega
                         simp [this])
    · intro q hq
      obtain ⟨r, hr', rfl⟩ := List.mem_map.1 hq
      have hrl := List.mem_range.1 hr'
      obtain ⟨_, hLC, hCm, hZ, hwf, hnone, hsome⟩ := hrow r (by omega)
      refine ⟨by simp only [List.length_take]; omega, ?_, fun z hz => by have := bounds_u8 (hwf z (List.mem_of_mem_take hz)); omega⟩
      simp only
      cases hA : A r with
      | none => exact Or.inl (by have h1 := hnone hA; rw [h1] at hZ; rw [List.eq_nil_of_length_eq_zero hZ]; simp)
      | some a' =>
        obtain ⟨_, hc⟩ := hsome a' hA
        by_cases h0 : 0 < C r
        · obtain ⟨b, off, spot⟩ := a'
          have hspot : spot = none := by simpa [Addr.add] using World.cell?_spot (hc 0 h0)
          subst hspot
          refine Or.inr ⟨b, off, rfl, fun k hk => ?_⟩
          have hk1 : k < L r := by simp only [List.length_take] at hk; omega
          have hk2 : k < (Z r).length := by omega
          have := hc k (by omega)
          rw [Go.WideShapes.add_plain] at this
          rw [this]
          simp [hk1, hk2]
        · exact Or.inl (by have h1 : C r = 0 := by omega
                           rw [h1] at hZ; rw [List.eq_nil_of_length_eq_zero hZ]; simp)
    · intro q hq
      obtain ⟨r, hr', rfl⟩ := List.mem_map.1 hq
      have hrl := List.mem_range.1 hr'
      obtain ⟨_, hLC, hCm, hZ, _⟩ := hrow r (by omega)
      exact ⟨by simp only [List.length_take]; omega, hCm⟩
    · have hb := bulk_rows (H := H) (List.range len) (fun r => (Z r).take (L r)) (fun r => intRow .u8 (A r) (L r) (Z r)) (fun r hr => by
        have hrl := List.mem_range.1 hr
        obtain ⟨_, hLC, hCm, hZ, _, hnone, _⟩ := hrow r (by omega)
        cases hA : A r with
        | none =>
          have h1 := hnone hA
          rw [h1] at hZ
          rw [List.eq_nil_of_length_eq_zero hZ]
          simp [intRow, Rows.uptoBulk]
        | some a' =>
          have h1 := bulk_length (H := H) (lits .u8 ((Z r).take (L r)))
          simp only [intRow, Rows.uptoBulk]
          simp [lits] at h1 ⊢
          omega)
      have hcat : cat ((List.range len).map (fun r => (⟨A r, C r, (Z r).take (L r)⟩ : Piece))) = (List.range len).flatMap (fun r => (Z r).take (L r)) := by
        simp [cat, List.flatMap_map]
      rw [hcat]
      simp only [List.length_range] at hb
      simp only [Rows.uptoBulk]
      omega
end Go.Proofs.YtejjnhaadoafpaaDoor
