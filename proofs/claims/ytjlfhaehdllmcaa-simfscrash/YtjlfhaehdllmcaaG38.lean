/- The fixed row's calls, one by one. -/
import Derived.Test.YtjlfhaehdllmcaaG36
import Derived.Test.YtjlfhaehdllmcaaG37
namespace Go.Proofs.Ytjlfhaehdllmcaa
open Go.RowKit Go.Maps Sf

def f2 : Ino := ⟨sa, 0, [49, 50], 0⟩
def f3 : Ino := ⟨sa, 0, [49, 50], 2⟩
def f4 : Ino := ⟨sa, 0, [49, 50, 51, 52, 53], 2⟩
def f5 : Ino := ⟨sa, 1, [49, 50, 51], 3⟩
def f6 : Ino := ⟨sb, 1, [49, 50, 51], 3⟩
def f7 : Ino := ⟨sb, 2, [], 0⟩
abbrev D1 : Dk := mk ⟨sa, 0, [], 0⟩ (some (1, 1)) none
abbrev D2 : Dk := mk f2 (some (1, 1)) none
abbrev D3 : Dk := mk f3 (some (1, 1)) none
abbrev D4 : Dk := mk f4 (some (1, 1)) none
abbrev D5 : Dk := mk f5 (some (1, 1)) none
abbrev D6 : Dk := mk f6 (some (1, 0)) (some (1, 1))
abbrev D7 : Dk := mk f7 (some (1, 0)) (some (1, 1))
def Goes (P : Nat → Prop) (w : World) (B : Nat) (d : Dk) (K : Nat) (e : Ending) (w' : World) : Prop := e = .returned (.int .i64 0) ∧ Dsk (More P w w') w' B d K ∧ FrP P w w'
theorem sa_len : sa.size ≤ maxLen := by decide
theorem sb_len : sb.size ≤ maxLen := by decide
section
variable {P : Nat → Prop} {w : World} {B : Nat}
theorem fx1 (h : Dsk P w B Sf.new 0) : Calls Try.prog 16 #[.pointer (some ⟨B, 0, none⟩), .string sa] w (Goes P w B D1 1) := by
  have e : err Sf.new sa = 141 := by unfold err; rw [may_a]; rfl
  refine (create_any h sa sa_len).mono ?_
  rintro e' w' hc
  rcases hc with ⟨h1, _⟩ | ⟨_, rfl, hd⟩
  · exact absurd e h1
  · have hw := h.wf.create may_a (s := sa) rfl
    rw [mk_new] at hd hw
    exact ⟨rfl, hd.dsk hw (by omega), hd.2⟩
theorem fxI {f f' : Ino} {K : Nat} {w' : World} (h : Dsk P w B (mk f (some (1, 1)) none) K) (hk : K < 1000000) (hd : DkTo P w B (Sf.putI (mk f (some (1, 1)) none) 1 (some f')) K w') (hn : f'.nm = f.nm) (h1 : f'.ls ≤ f'.bs.length) (h2 : f'.bs.length ≤ 1048576) (h3 : f'.gen ≤ K + 1) : Goes P w B (mk f' (some (1, 1)) none) (K + 1) (.returned (.int .i64 0)) w' := by
  have hw := h.wf.putI (f' := f') mk_ino hn h1 h2 h3
  have hd := DkTo.up hd (Nat.le_succ K)
  rw [mk_put] at hd hw
  exact ⟨rfl, hd.dsk hw hk, hd.2⟩
theorem fx2 {f f' : Ino} {K : Nat} (h : Dsk P w B (mk f (some (1, 1)) none) K) (hk : K < 1000000) {Y : Value} {b : List UInt8} (hY : LAt w Y (uv b)) (hf : f.lay b = f') (h1 : f'.ls ≤ f'.bs.length) (h2 : f.bs.length + b.length ≤ 1048576) (h3 : f'.gen ≤ K + 1) : Calls Try.prog 17 #[.pointer (some ⟨B, 0, none⟩), .string sa, Y] w (Goes P w B (mk f' (some (1, 1)) none) (K + 1)) := by
  refine (append_any h sa sa_len hY).mono ?_
  rintro e' w' hc
  rcases hc with ⟨x, _⟩ | ⟨_, g, hg, hc⟩
  · exact absurd mk_err x
  · rw [mk_num, mk_ino] at hg
    cases hg
    rcases hc with ⟨x, _⟩ | ⟨_, rfl, hd⟩
    · omega
    · rw [mk_num, hf] at hd
      exact fxI h hk hd (by rw [← hf]; rfl) h1 (by rw [← hf]; show (f.bs ++ b).length ≤ _; rw [List.length_append]; exact h2) h3
theorem fx3 (h : Dsk P w B D2 2) : Calls Try.prog 18 #[.pointer (some ⟨B, 0, none⟩), .string sa] w (Goes P w B D3 3) := by
  refine (dsync_any h sa sa_len).mono ?_
  rintro e' w' hc
  rcases hc with ⟨x, _⟩ | ⟨_, g, hg, rfl, hd⟩
  · exact absurd mk_err x
  · rw [mk_num, mk_ino] at hg
    cases hg
    rw [mk_num] at hd
    exact fxI (f' := f3) h (by omega) hd rfl (by decide) (by decide) (by decide)
theorem fx5 {Kv : Value} (h : Dsk P w B D4 4) (hK : LAtX (fun k => ¬ P k) w Kv (ints [1])) : Calls Try.prog 13 #[.pointer (some ⟨B, 0, none⟩), Kv] w fun e w' => e = .returned (.tuple #[]) ∧ Dsk (More P w w') w' B D5 5 ∧ FrP P w w' := by
  refine (dcrash_any h hK (fun z hz => by simp at hz; subst hz; unfold goodI; omega)).mono ?_
  rintro e' w' ⟨rfl, hd⟩
  have hw := h.wf.crash (keep := [1])
  rw [mk_crash 1 (by decide)] at hd hw
  have e : f4.crash 1 = f5 := rfl
  rw [e] at hd hw
  have hd := DkTo.up hd (Nat.le_succ 4)
  exact ⟨rfl, hd.dsk hw (by omega), hd.2⟩
theorem fx6 (h : Dsk P w B D5 5) : Calls Try.prog 20 #[.pointer (some ⟨B, 0, none⟩), .string sa, .string sb] w (Goes P w B D6 6) := by
  have e : renE D5 sa sb = 0 := by unfold renE; rw [mk_err, may_b]; rfl
  refine (rename_any h sa sb sa_len sb_len).mono ?_
  rintro e' w' ⟨rfl, hc⟩
  rw [e] at hc ⊢
  rcases hc with ⟨_, _, hd⟩ | ⟨x | x, _⟩
  · have hw := h.wf.rename (a := sa) (b := sb) may_b (by rw [mk_num]; decide) sab
    rw [mk_rename] at hd hw
    exact ⟨rfl, hd.dsk hw (by omega), hd.2⟩
  · exact absurd rfl x
  · exact absurd x sab
theorem fx7 (h : Dsk P w B D6 6) : Calls Try.prog 22 #[.pointer (some ⟨B, 0, none⟩), .string sb] w (Goes P w B D7 7) := by
  refine (cut_any h sb sb_len).mono ?_
  rintro e' w' hc
  rcases hc with ⟨x, _⟩ | ⟨_, g, hg, rfl, hd⟩
  · exact absurd mk_errb x
  · rw [mk_numb, mk_ino] at hg
    cases hg
    rw [mk_numb] at hd
    have e : f6.shorten 0 = f7 := rfl
    rw [e] at hd
    have hw := h.wf.putI (f' := f7) mk_ino rfl (by decide) (by decide) (by decide)
    have hd := DkTo.up hd (Nat.le_succ 6)
    rw [mk_put] at hd hw
    exact ⟨rfl, hd.dsk hw (by omega), hd.2⟩
theorem fx8 (h : Dsk P w B D7 7) : Calls Try.prog 23 #[.pointer (some ⟨B, 0, none⟩), .string sb] w fun e w' => e = .returned (.int .i64 0) ∧ FrP P w w' := by
  refine (remove_any h sb sb_len).mono ?_
  rintro e' w' hc
  rcases hc with ⟨x, _⟩ | ⟨_, g, hg, rfl, hd⟩
  · exact absurd mk_errb x
  · exact ⟨rfl, hd.2⟩
theorem fxS (h : Dsk P w B D5 5) : Calls Try.prog 8 #[.pointer (some ⟨B, 0, none⟩), .string sa] w fun e w' => e = .returned (.tuple #[.agg #[.int .i64 1, .int .i64 1, .int .i64 1, .int .i64 3], .int .i64 0]) ∧ Below w.heap.size w w' := by
  refine (stat_any h sa sa_len).mono ?_
  rintro e' w' ⟨rfl, hb⟩
  refine ⟨?_, hb⟩
  rw [mk_err, if_pos rfl, mk_num]
  unfold statOf
  rw [mk_ino]
  have hs : ser D5 f5.nm = 1 := mk_ser
  simp only
  rw [hs]
  rfl
theorem fxT {K : Nat} (h : Dsk P w B D6 K) : Calls Try.prog 8 #[.pointer (some ⟨B, 0, none⟩), .string sb] w fun e w' => e = .returned (.tuple #[.agg #[.int .i64 1, .int .i64 1, .int .i64 1, .int .i64 3], .int .i64 0]) ∧ Below w.heap.size w w' := by
  refine (stat_any h sb sb_len).mono ?_
  rintro e' w' ⟨rfl, hb⟩
  refine ⟨?_, hb⟩
  rw [mk_errb, if_pos rfl, mk_numb]
  unfold statOf
  rw [mk_ino]
  have hs : ser D6 f6.nm = 1 := mk_serb
  simp only
  rw [hs]
  rfl
theorem mk_inoZ {f : Ino} {la lb : Option (Nat × Nat)} : inoZ (mk f la lb) 1 = some f := by unfold inoZ; simp [mk]
theorem fxR (h : Dsk P w B D5 5) : Calls Try.prog 19 #[.pointer (some ⟨B, 0, none⟩), .int .i64 1, .int .i64 1, .int .i64 0, .int .i64 9] w fun e w' => ∃ V, e = .returned (.tuple #[V, .int .i64 0]) ∧ w'.ownsRow w.heap.size 5 1 V 3 (uv [49, 50, 51]) ∧ Below w.heap.size w w' := by
  refine (read_any h 1 1 0 9 (by unfold goodI; omega) (by unfold goodI; omega) (by unfold goodI; omega)).mono ?_
  rintro e' w' hc
  have hr : readE D5 1 1 0 9 = 0 := by unfold readE; rw [if_neg (by omega), mk_inoZ]; rfl
  rcases hc with ⟨x, _⟩ | ⟨_, g, V, hg, _, _, rfl, hV, hb⟩
  · exact absurd hr x
  · rw [mk_inoZ] at hg
    cases hg
    exact ⟨V, rfl, hV, hb⟩
theorem fxN (h : Dsk P w B D6 6) : Calls Try.prog 21 #[.pointer (some ⟨B, 0, none⟩), .int .i64 1] w fun e w' => e = .returned (.tuple #[.agg #[.int .i64 1, .int .i64 1, .int .i64 1, .int .i64 3], .int .i64 0]) ∧ Below w.heap.size w w' := by
  refine (inode_any h 1 (by unfold goodI; omega)).mono ?_
  rintro e' w' hc
  rcases hc with ⟨x, _⟩ | ⟨g, hg, rfl, hb⟩
  · rw [mk_inoZ] at x; cases x
  · rw [mk_inoZ] at hg
    cases hg
    refine ⟨?_, hb⟩
    have hs : ser D6 f6.nm = 1 := mk_serb
    rw [hs]
    rfl
theorem fxL (h : Dsk P w B D6 6) : Calls Try.prog 11 #[.pointer (some ⟨B, 0, none⟩)] w fun e w' => ∃ V, e = .returned V ∧ w'.ownsRow w.heap.size 9 1 V 1 [.string sb] ∧ Below w.heap.size w w' := by
  refine (names_any h).mono ?_
  rintro e' w' ⟨V, rfl, hV, hb⟩
  rw [mk_names] at hV
  exact ⟨V, rfl, hV, hb⟩
end
end Go.Proofs.Ytjlfhaehdllmcaa
