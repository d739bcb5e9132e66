/- From the row's own conditions to what the walks ask: bytes, sets and lists of sets that came in. -/
import Derived.Test.YtkgpmaclaahmbaaRowb
import Derived.ProofKit
import Derived.OpenShut
import Derived.ShutString
import Derived.ChangeOld
import Derived.SizedLaws
import Derived.JoinedCond
import Derived.Deep.DeepHandedRow
import Derived.LaidLaws
namespace Go.Proofs.Ytkgpmaclaahmbaa
open Go.ChangeShapes Go.WideShapes Go.ChangeAt Go.RowKit

theorem own : ownKnob Try.prog.godebug = none := by kernel_rfl
theorem laidOut : laidOutB Try.prog = true := by kernel_rfl
theorem cells5 : Try.prog.cellsOf 5 = 1 := by kernel_rfl

theorem nats_of {zs : List Int} (h : ∀ z ∈ zs, 0 ≤ z ∧ z < 256) : ∃ bs : List Nat, zs = ints bs ∧ ∀ b ∈ bs, b < 256 := by
  refine ⟨zs.map Int.toNat, ?_, ?_⟩
  · unfold ints
    rw [List.map_map]
    apply List.ext_getElem (by simp)
    intro k hk _
    have hz := h _ (List.getElem_mem hk)
    simp
    omega
  · intro b hb
    obtain ⟨z, hz, rfl⟩ := List.mem_map.1 hb
    have := h z hz
    omega
theorem bounds_u8' {z : Int} (h : (Lit.int .u8 z).wf = true) : 0 ≤ z ∧ z < 256 := by
  have h : 0 ≤ z ∧ z ≤ 255 := by simpa [Lit.wf, IntKind.min, IntKind.max, IntKind.signed, IntKind.bits] using h
  omega

/-- BYTES THAT CAME IN. -/
theorem open_bytes {H : Type} {enc : TypeId × Value → H} {W : World} {a : Option Addr} {len cap : Nat} {d : DataW H} {p : List MemPlace}
    (h : DataW.Trod enc Try.prog W 0 (fun _ => true) true 27 (.slice a len cap) d p) :
    ∃ bs : List Nat, len = bs.length ∧ len ≤ cap ∧ BytesAt W a bs ∧ (∀ b ∈ bs, b < 256) ∧ ((cap = 0 ∧ d = .nil) ∨ ∃ elems spare, d = .slice elems spare ∧ elems.length + spare.length = cap ∧ elems.length = len) := by
  obtain ⟨fuel, hf⟩ := h
  rcases open_ints Try.underlying27 Try.underlying5 cells5 hf with ⟨hcs, hx⟩ | ⟨x, l, c, zs, hcs, _, hl, hm, hz, hx, hcell, hwz⟩
  · simp [Value.cells] at hcs
    obtain ⟨rfl, rfl, rfl⟩ := hcs
    cases hx
    exact ⟨[], rfl, Nat.le_refl _, Or.inl rfl, (by simp), Or.inl ⟨rfl, rfl⟩⟩
  · simp [Value.cells] at hcs
    obtain ⟨rfl, rfl, rfl⟩ := hcs
    have hz' : zs.length = cap := by simpa using hz
    cases hx
    obtain ⟨bs, hbs, hb⟩ := nats_of (zs := zs) (fun z hz => bounds_u8' (hwz z hz))
    have hbl : bs.length = cap := by rw [← hz', hbs, ints_length]
    refine ⟨bs.take len, by simp; omega, hl, ?_, fun b hb' => hb b (List.mem_of_mem_take hb'), Or.inr ⟨_, _, rfl, by simp [lits]; omega, by simp [lits]; omega⟩⟩
    by_cases h0 : 0 < zs.length
    · obtain ⟨b, off, rfl, hc⟩ := _root_.Go.ints_at hcell h0
      refine Or.inr ⟨b, off, rfl, fun k hk => ?_⟩
      have hk1 : k < len := by simp at hk; omega
      have hk2 : k < zs.length := by simp at hk; omega
      have hk3 : k < bs.length := by omega
      rw [hc k hk2]
      have e : zs[k]? = some ((bs.getD k 0 : Nat) : Int) := by rw [hbs]; simp [ints, hk3]
      simp [hk1, hk3, List.getD, e] at e ⊢
    · exact Or.inl (by have : bs = [] := List.eq_nil_of_length_eq_zero (by omega)
                       simp [this])
/-- A TEXT THAT CAME IN. -/
theorem open_text {H : Type} {enc : TypeId × Value → H} {W : World} {r : Reach} {b0 : Nat} {v : Value} {d : DataW H} {p : List MemPlace} (hval : Value.okWide Try.prog W r b0 9 v) (hd : DataW.Trod enc Try.prog W 0 (fun _ => true) true 9 v d p) : ∃ s : ByteArray, v = .string s ∧ p = [] := by
  obtain ⟨s, rfl⟩ := okWide_string Try.underlying9 hval
  obtain ⟨fuel, hf⟩ := hd
  obtain ⟨s', h, hx, hs⟩ := DataW.trod_string Try.underlying9 hf
  simp only [Prod.mk.injEq] at hx
  exact ⟨s, rfl, hx.2⟩
/-- A slice of bytes that came in is no longer than the reach. -/
theorem reach_bytes {H : Type} {ts : List TypeId} {ds : List (DataW H)} (h : (DataW.weightsEach Try.prog ts ds).all (· ≤ reachBytes) = true) {j : Nat} {d : DataW H} {cap len : Nat} (ht : ts[j]? = some 27) (hd : ds[j]? = some d)
    (hc : (cap = 0 ∧ d = .nil) ∨ ∃ elems spare, d = .slice elems spare ∧ elems.length + spare.length = cap ∧ elems.length = len) : cap ≤ 140737488351232 := by
  rcases hc with ⟨h0, _⟩ | ⟨elems, spare, rfl, hl, _⟩
  · omega
  · have h1 := sized_slice h ht hd Try.underlying27
    have h2 : Try.prog.bytesOf 5 = 1 := by kernel_rfl
    rw [h2, hl] at h1
    have h3 : reachBytes = 140737488351232 := by decide
    omega
end Go.Proofs.Ytkgpmaclaahmbaa
