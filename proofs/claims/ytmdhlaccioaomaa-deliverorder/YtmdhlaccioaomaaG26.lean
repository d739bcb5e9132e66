/- A new slice of one alert, and an append of it, as the walks meet them. -/
import Derived.Test.YtmdhlaccioaomaaG20
namespace Go.Proofs.Ytmdhlaccioaomaa
open Go.RowKit Go.Maps Rg Bo

def bslAl (n : Nat) (p : Array (Nat × Value)) : Sem Value := Instr.buildSlice 32 n p
theorem bslAl_eq (n : Nat) (p : Array (Nat × Value)) : Instr.buildSlice 32 n p = bslAl n p := rfl
theorem run_bsl (a : Al) (w : World) : (bslAl 1 #[(0, alV a)]).run Try.prog w = .ok (.slice (some ⟨w.heap.size, 0, none⟩) 1 1) (w.alloc (.cells (alC a).toArray 41)) := by
  unfold bslAl alV
  simp [Instr.buildSlice, go_sem, alC]
def appAl (ty : TypeId) (p : Array Value) : Sem Value := Builtin.append_ #[32, 32] ty p
theorem appAl_eq (ty : TypeId) (p : Array Value) : Builtin.append_ #[32, 32] ty p = appAl ty p := rfl
theorem infAl : (Try.prog.info? 41).map (fun i => (i.zero, i.size, i.bytes)) = some (some (alV alZ), 12, 104) := by kernel_rfl
/-- an append of one alert to a row of one's own -/
theorem run_appAl {w : World} {base : Nat} {V : Value} {l : List Al} (h : w.ownsRow base 41 12 V l.length (l.flatMap alC)) (hb : base ≤ w.heap.size) (hl : l.length ≤ 100000) {A c : Nat} {a : Al} (ha : w.rangeAt A 0 (alC a)) (ty : TypeId) :
    ∃ g cap w', (appAl ty #[V, .slice (some ⟨A, 0, none⟩) 1 c]).run Try.prog w = .ok (.slice (some ⟨g, 0, none⟩) (l.length + 1) cap) w' ∧ w'.ownsRow base 41 12 (.slice (some ⟨g, 0, none⟩) (l.length + 1) cap) (l ++ [a]).length ((l ++ [a]).flatMap alC) ∧ w.grownBy w' V.ownBlock ∧ (V.ownBlock = some g ∨ g = w.heap.size) := by
  obtain ⟨i0, hi, hz0, hz1, hz2⟩ := info_parts infAl
  obtain ⟨g, cap, w', hr, ho, hg, hgg, hlt⟩ := run_append_lies (P := Try.prog) w 32 ty base 41 i0 (alV alZ) 12 104 Try.underlying32 hi hz0 hz1 hz2 rfl (by omega) V l.length _ h ⟨A, 0, none⟩ 1 c (alC a) rfl
    (fun j u hu => by rw [Go.WideShapes.add_plain]; exact ha j u hu) (alC_one a) (by omega) (by unfold maxLen; omega) (by omega) hb w.heap.size rfl
  refine ⟨g, cap, w', hr, ?_, hg, hgg⟩
  have e : (l ++ [a]).flatMap alC = l.flatMap alC ++ alC a := by simp
  rw [e, List.length_append]
  exact ho
end Go.Proofs.Ytmdhlaccioaomaa
