/- From the row's own conditions to what the walks ask: the table in memory, bytes that came in; a world for the witness. -/
import Derived.Test.YtejjnhaadoafpaaDoorOwn
import Derived.Test.YtejjnhaadoafpaaDoorCards
import Derived.Test.YtejjnhaadoafpaaDoorTie
import Derived.ProofKit
import Derived.OpenShut
import Derived.ShutString
import Derived.ChangeOld
import Derived.SizedLaws
import Derived.Deep.DeepHandedRow
import Derived.Lib.LaidTab
namespace Go.Proofs.YtejjnhaadoafpaaDoor
open Go.ChangeShapes Go.WideShapes Go.ChangeAt Go.RowKit

theorem own : ownKnob Tryd.prog.godebug = none := by kernel_rfl
theorem laidOut : laidOutB Tryd.prog = true := by kernel_rfl
theorem gTab : Tryd.prog.globalNamed "heron/crc.halves" = some 0 := by kernel_rfl
theorem gTabType : (Tryd.prog.globals[0]?).map (·.type) = some 38 := by kernel_rfl
theorem cells38 : Tryd.prog.cellsOf 38 = 16 := by kernel_rfl
theorem cells25 : Tryd.prog.cellsOf 25 = 1 := by kernel_rfl
theorem cells5 : Tryd.prog.cellsOf 5 = 1 := by kernel_rfl
theorem cells24 : Tryd.prog.cellsOf 24 = 1 := by kernel_rfl

theorem table {W : World} (h : laidMetH Tryd.prog [("heron/crc.halves", Rows.laid_heron_crc_halves)] W) :
    Lib.TabIs Tryd.prog W "heron/crc.halves" .u32 [0, 498536548, 997073096, 651767980, 1994146192, 1802195444, 1303535960, 1342533948, 3988292384, 4027552580, 3604390888, 3412177804, 2607071920, 2262029012, 2685067896, 3183342108] :=
  Lib.tabIs_of_head (rest := []) gTab gTabType Tryd.underlying38 Tryd.underlying25 cells25 cells38 h
theorem tab_of {W : World} (h : laidMetH Tryd.prog [("heron/crc.halves", Rows.laid_heron_crc_halves)] W) : Tab W := by
  intro i hi
  have h1 := (table h).cell gTab i hi
  rw [h1]
  have h2 : ∀ i, i < 16 → ([0, 498536548, 997073096, 651767980, 1994146192, 1802195444, 1303535960, 1342533948, 3988292384, 4027552580, 3604390888, 3412177804, 2607071920, 2262029012, 2685067896, 3183342108] : List Int).getD i 0 = ((Crc.tabL.getD i 0 : Nat) : Int) := by decide
  rw [h2 i hi]
theorem pos_of {W : World} (h : Tab W) : 0 < W.heap.size := by
  have := World.block_lt_of_cell? W _ (h 0 (by decide))
  exact this

/-- BYTES THAT CAME IN. -/
theorem open_bytes {H : Type} {enc : TypeId × Value → H} {W : World} {a : Option Addr} {len cap : Nat} {d : DataW H} {p : List MemPlace}
    (h : DataW.Trod enc Tryd.prog W 0 (fun _ => true) true 24 (.slice a len cap) d p) :
    ∃ zs : List Int, zs.length = len ∧ len ≤ cap ∧ BytesAt W a zs ∧ Crc.Bs zs ∧ ((cap = 0 ∧ d = .nil) ∨ ∃ elems spare, d = .slice elems spare ∧ elems.length + spare.length = cap ∧ elems.length = len) := by
  obtain ⟨fuel, hf⟩ := h
  rcases open_ints Tryd.underlying24 Tryd.underlying5 cells5 hf with ⟨hcs, hx⟩ | ⟨x, l, c, zs, hcs, _, hl, hm, hz, hx, hcell, hwz⟩
  · simp [Value.cells] at hcs
    obtain ⟨rfl, rfl, rfl⟩ := hcs
    cases hx
    exact ⟨[], rfl, Nat.le_refl _, Or.inl rfl, bs_lit rfl, Or.inl ⟨rfl, rfl⟩⟩
  · simp [Value.cells] at hcs
    obtain ⟨rfl, rfl, rfl⟩ := hcs
    have hz' : zs.length = cap := by simpa using hz
    cases hx
    refine ⟨zs.take len, by simp; omega, hl, ?_, ?_, Or.inr ⟨_, _, rfl, by simp [lits]; omega, by simp [lits]; omega⟩⟩
    · by_cases h0 : 0 < zs.length
      · obtain ⟨b, off, rfl, hc⟩ := ints_at hcell h0
        refine Or.inr ⟨b, off, rfl, fun k hk => ?_⟩
        have hk1 : k < len := by simp at hk; omega
        have hk2 : k < zs.length := by simp at hk; omega
        rw [hc k hk2]
        simp [hk1, hk2]
      · exact Or.inl (by have : zs = [] := List.eq_nil_of_length_eq_zero (by omega); simp [this])
    · intro z hz
      have hw := hwz z (List.mem_of_mem_take hz)
      have := bounds_u8 hw
      omega

/-- A slice of bytes that came in is no longer than the reach. -/
theorem reach_bytes {H : Type} {ts : List TypeId} {ds : List (DataW H)} (h : (DataW.weightsEach Tryd.prog ts ds).all (· ≤ reachBytes) = true) {j : Nat} {d : DataW H} {cap len : Nat} (ht : ts[j]? = some 24) (hd : ds[j]? = some d)
    (hc : (cap = 0 ∧ d = .nil) ∨ ∃ elems spare, d = .slice elems spare ∧ elems.length + spare.length = cap ∧ elems.length = len) : cap ≤ 140737488351232 := by
  rcases hc with ⟨h0, _⟩ | ⟨elems, spare, rfl, hl, _⟩
  · omega
  · have h1 := sized_slice h ht hd Tryd.underlying24
    have h2 : Tryd.prog.bytesOf 5 = 1 := by kernel_rfl
    rw [h2, hl] at h1
    have h3 : reachBytes = 140737488351232 := by decide
    omega
end Go.Proofs.YtejjnhaadoafpaaDoor
