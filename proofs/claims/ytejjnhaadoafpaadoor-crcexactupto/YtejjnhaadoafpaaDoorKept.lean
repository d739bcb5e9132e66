/- The contract of heronlaw01.kept: bytes and the marks behind them are as they were. -/
import Derived.Test.YtejjnhaadoafpaaDoorRefAll
import Derived.Laws.BytesArg
namespace Go.Proofs.YtejjnhaadoafpaaDoor
open Go.RowKit

theorem conv_string (w : World) (a : Option Addr) (n cap : Nat) (zs : List Int) (hn : n = zs.length) (hb : BytesAt w a zs) : (convert 24 9 (.slice a n cap)).run Tryd.prog w = .ok (.string (strOfNums zs)) w := by
  subst hn
  rcases hb with rfl | ⟨b, off, rfl, hc⟩
  · cases a with
    | none => exact run_convert_bytes_nil w 24 5 Tryd.underlying24 Tryd.underlying5 0 cap 9 Tryd.underlying9
    | some ad =>
      rw [run_convert_bytes_string w 24 9 5 _ _ _ Tryd.underlying24 Tryd.underlying5 Tryd.underlying9]
      have hl : (loadCells ad 0).run Tryd.prog w = .ok (([] : List Int).map (Value.int .u8)).toArray w := run_loadCells_list (P := Tryd.prog) w ad [] (fun j v hj => by simp at hj)
      exact run_bytesToString w ad 0 cap [] hl
  · exact run_convert_bytes_arg w 24 5 Tryd.underlying24 Tryd.underlying5 b off zs.length cap zs rfl hc 9 Tryd.underlying9
theorem bytesAt_drewN {w : World} {a : Option Addr} {zs : List Int} (h : BytesAt w a zs) (nq : Nat) : BytesAt (w.drewN nq) a zs := bytesAt_later (below_drewN (Below.refl _ _) nq) h

theorem Room.bytes {w : World} {B g c : Nat} {zs : List Int} (h : Room w B g c zs) : BytesAt w (some ⟨g, 0, none⟩) zs ∧ w.cell? ⟨g, zs.length, none⟩ = some (.int .u8 209) ∧ w.cell? ⟨g, zs.length + 1, none⟩ = some (.int .u8 210) := by
  obtain ⟨g', c', e, _, _, hb, _⟩ := Owns.form h
  simp only [Value.slice.injEq, Option.some.injEq, Addr.mk.injEq] at e
  obtain ⟨⟨rfl, _⟩, _⟩ := e
  have h1 := bytesAt_take zs.length hb
  rw [List.take_left] at h1
  rcases hb with h0 | ⟨b, off, e, hc⟩
  · simp at h0
  · cases e
    have h2 := hc zs.length (by simp)
    have h3 := hc (zs.length + 1) (by simp)
    rw [Nat.zero_add] at h2 h3
    refine ⟨h1, ?_, ?_⟩
    · rw [h2]; simp
    · rw [h3]; simp

set_option maxHeartbeats 1000000 in
theorem kept_n (B g c n : Nat) (a : Option Addr) (cap : Nat) (zs : List Int) (w : World) (hn : n = zs.length) (hl : n ≤ 1048576) (hc : n + 2 ≤ c) (hcm : c ≤ maxLen) (hr : Room w B g c zs) (hb : BytesAt w a zs) :
    Calls Tryd.prog 14 #[.slice (some ⟨g, 0, none⟩) n c, .slice a n cap] w fun e w' => e = .returned (.bool true) ∧ Below w.heap.size w w' := by
  obtain ⟨hb1, hm1, hm2⟩ := hr.bytes
  rw [← hn] at hm1 hm2
  have hcm' : c ≤ 9223372036854775807 := hcm
  have k1 : ∀ nq cap', (convert 24 9 (.slice (some ⟨g, 0, none⟩) n cap')).run Tryd.prog (w.drewN nq) = .ok (.string (strOfNums zs)) (w.drewN nq) := fun nq cap' => conv_string _ _ n cap' zs hn (bytesAt_drewN hb1 nq)
  have k2 : ∀ nq cap', (convert 24 9 (.slice a n cap')).run Tryd.prog (w.drewN nq) = .ok (.string (strOfNums zs)) (w.drewN nq) := fun nq cap' => conv_string _ _ n cap' zs hn (bytesAt_drewN hb nq)
  obtain ⟨S, hS⟩ : ∃ S, S = strOfNums zs := ⟨_, rfl⟩
  rw [← hS] at k1 k2
  clear hS hb1 hr hb hcm hn
  go_enter Tryd.func14, Tryd.ntmps14
  go_wp2
  go_quiet (fail)
  go_wp2
  go_ret
  exact ⟨rfl, below_drewN (Below.refl _ _) _⟩
end Go.Proofs.YtejjnhaadoafpaaDoor
