/- simfs: Crash. -/
import Derived.Test.YtpikepifhnkmkaaG25
namespace Go.Proofs.Ytpikepifhnkmkaa
open Go.RowKit Go.Maps Sf
attribute [local go_sem ↓] Go.wp_at_zero Go.wp_at_succ

def ints (r : List Int) : List Value := r.map fun z => Value.int .i64 z
theorem ints_len (r : List Int) : (ints r).length = r.length := by simp [ints]
theorem ints_at {r : List Int} {k : Nat} {z : Int} (h : r[k]? = some z) : (ints r)[k]? = some (.int .i64 z) := by simp [ints, h]
def BoxAt (w : World) (b : Nat) (v : Value) (t : TypeId) : Prop := w.heap[b]? = some (.cells #[v] t (0, 0))
theorem BoxAt.cell {w : World} {b : Nat} {v : Value} {t : TypeId} (h : BoxAt w b v t) : w.cell? ⟨b, 0, none⟩ = some v ∧ w.frozen? ⟨b, 0, none⟩ = false := by
  simp [World.cell?, World.frozen?, show w.heap[b]? = _ from h]
theorem BoxAt.lt {w : World} {b : Nat} {v : Value} {t : TypeId} (h : BoxAt w b v t) : b < w.heap.size := (Array.getElem?_eq_some_iff.1 h).1
theorem BoxAt.later {w u : World} {b : Nat} {v : Value} {t : TypeId} (h : BoxAt w b v t) (hb : Below w.heap.size w u) : BoxAt u b v t := (hb.block b h.lt).trans h
theorem BoxAt.put {w : World} {b : Nat} {v : Value} {t : TypeId} (h : BoxAt w b v t) (x : Value) : BoxAt (w.setCell ⟨b, 0, none⟩ x) b x t := by unfold BoxAt; rw [heap_set h]; simp
def Crash1 (Bk k n a : Nat) (V : Value) (f : Ino) (z : Int) (u : World) (e : Ending) (u' : World) : Prop :=
  e = .returned (.tuple #[]) ∧ ((f.ls = f.bs.length ∧ Below u.heap.size u u') ∨ (f.ls ≠ f.bs.length ∧ ∃ u1, BoxAt u1 Bk (.int .i64 ((k + 1 : Nat) : Nat)) 3 ∧ FrP (fun b => b = Bk) u u1 ∧ IPost a n V (f.crash z) u1 u'))
set_option maxRecDepth 8000 in
set_option maxHeartbeats 1000000 in
theorem crash1_any {u : World} {a n : Nat} {f : Ino} {V : Value} (h : InoAt u a n f V) (hl : f.ls ≤ f.bs.length) (hbl : f.bs.length ≤ 1048576) (hg : f.gen < 4611686018427387904) {Bk Bp k : Nat} {Kv : Value} {keep : List Int} (hk : BoxAt u Bk (.int .i64 (k : Nat)) 3) (hk2 : k ≤ 4000000) (hp : BoxAt u Bp Kv 51) (hK : LAt u Kv (ints keep)) (hG : ∀ z ∈ keep, goodI z) :
    Calls Try.prog 49 #[.pointer (some ⟨a, 0, none⟩), .pointer (some ⟨Bk, 0, none⟩), .pointer (some ⟨Bp, 0, none⟩)] u (Crash1 Bk k n a V f (keep.getD k 0) u) := by
  have HS : Hid (Calls Try.prog 50 #[.pointer (some ⟨a, 0, none⟩)] u _) := synced_any h
  by_cases hsy : f.ls = f.bs.length
  · rw [decide_eq_true hsy] at HS
    have HSY : Hid (f.ls = f.bs.length) := hsy
    clear h hk hp hK hsy
    go_enter Try.func49, Try.ntmps49
    go_wp2_with fail
    refine HS.out.mono ?_
    rintro e u1 ⟨rfl, hb⟩
    clear HS
    go_wp2
    first | go_end0 | (simp only [Exit.inBlock, Exit.then]; refine bodyPost_ret (results_none rfl _ _ _) rfl ?_) | refine bodyPost_ret (results_none rfl _ _ _) rfl ?_
    exact ⟨rfl, .inl ⟨HSY.out, hb⟩⟩
  rw [decide_eq_false hsy] at HS
  have HSY : Hid (f.ls ≠ f.bs.length) := hsy
  have HI : Hid (InoAt u a n f V) := h
  have HK : Hid (LAt u Kv (ints keep)) := hK
  have HBK : Hid (BoxAt u Bk (.int .i64 (k : Nat)) 3) := hk
  have HBP : Hid (BoxAt u Bp Kv 51) := hp
  obtain ⟨ka, kc, hkv, hk3, hk4, hcells⟩ := hK.open
  rw [ints_len] at hkv hk3
  subst hkv
  obtain ⟨nk, hnk⟩ : ∃ nk, keep.length = nk := ⟨_, rfl⟩
  rw [hnk] at hk3 HK HBP hp
  have HEND : Hid (∀ u2, Below u.heap.size u u2 → ∀ z, z = keep.getD k 0 → Calls Try.prog 51 #[.pointer (some ⟨a, 0, none⟩), .int .i64 z] (u2.setCell ⟨Bk, 0, none⟩ (.int .i64 ((k : Int) + 1))) fun e u' => e = .returned (.tuple #[]) ∧ Crash1 Bk k n a V f (keep.getD k 0) u e u') := fun u2 hu2 z hz => by
    have hbu : BoxAt (u2.setCell ⟨Bk, 0, none⟩ (.int .i64 ((k : Int) + 1))) Bk (.int .i64 ((k + 1 : Nat) : Nat)) 3 := BoxAt.put (HBK.out.later hu2) _
    have hne : a ≠ Bk := fun e => by
      have t1 := HI.out.ty
      rw [e] at t1
      exact absurd (TyB.ne t1 ⟨_, _, HBK.out⟩) (by decide)
    have hi2 : InoAt (u2.setCell ⟨Bk, 0, none⟩ (.int .i64 ((k : Int) + 1))) a n f V := by
      refine HI.out.keep ((Below.heap_setCell u2 ⟨Bk, 0, none⟩ _ a hne).trans (hu2.block a HI.out.lt)) (fun b hb hl => (Below.heap_setCell u2 ⟨Bk, 0, none⟩ _ b (fun e => ?_)).trans (hu2.block b hl))
      have e : b = Bk := e
      subst e
      exact absurd (TyB.ne (HI.out.v.ty hb).1 ⟨_, _, HBK.out⟩) (by decide)
    subst hz
    refine (crash_any hi2 hbl hl hg (k := keep.getD k 0) ?_).mono ?_
    · by_cases hx : k < keep.length
      · have := hG (keep.getD k 0) (by rw [List.getD_eq_getElem?_getD, List.getElem?_eq_getElem hx]; exact List.getElem_mem _)
        unfold goodI at this
        exact this
      · rw [List.getD_eq_getElem?_getD, List.getElem?_eq_none (by omega)]
        simp
    · rintro e u' ⟨rfl, h1⟩
      exact ⟨rfl, rfl, .inr ⟨HSY.out, _, hbu, (FrP.of_below (fun b => b = Bk) hu2).set (fun _ => rfl) 0 _, h1⟩⟩
  by_cases hx : k < nk
  · obtain ⟨z, hz⟩ : ∃ z, keep[k]? = some z := ⟨_, List.getElem?_eq_getElem (by omega)⟩
    obtain ⟨kb, ko, rfl, hcell⟩ := hcells k _ (ints_at hz)
    have HZ : Hid (z = keep.getD k 0) := by show _ = _; rw [List.getD_eq_getElem?_getD, hz]; rfl
    have hx' : (k : Int) < (nk : Int) := by omega
    clear h hk hp hK hsy hcells hz hnk hG hl hbl hg
    go_enter Try.func49, Try.ntmps49
    go_wp2_with fail
    refine HS.out.mono ?_
    rintro e u2 ⟨rfl, hb⟩
    have HB : Hid (Below u.heap.size u u2) := hb
    have HC := HEND.out u2 hb z HZ.out
    obtain ⟨b0, b1⟩ := (HBK.out.later hb).cell
    obtain ⟨b2, b3⟩ := (HBP.out.later hb).cell
    have hcell2 : u2.cell? ⟨kb, ko + k, none⟩ = some (.int .i64 z) := cell_later hb _ _ _ hcell
    have hpb : Bp ≠ Bk := fun e => by
      have t1 := HBP.out
      rw [e] at t1
      exact absurd (TyB.ne ⟨_, _, t1⟩ ⟨_, _, HBK.out⟩) (by decide)
    have HC : Hid (Calls Try.prog 51 #[.pointer (some ⟨a, 0, none⟩), .int .i64 z] (u2.setCell ⟨Bk, 0, none⟩ (.int .i64 ((k : Int) + 1))) _) := HC
    clear hb HS HEND hcell HI HK HBK HBP
    go_wp2_with fail
    refine HC.out.mono ?_
    rintro e u3 ⟨rfl, h3⟩
    have H3 : Hid (Crash1 Bk k n a V f (keep.getD k 0) u (.returned (.tuple #[])) u3) := h3
    clear h3 HC
    go_wp2
    first | go_end0 | (simp only [Exit.inBlock, Exit.then]; refine bodyPost_ret (results_none rfl _ _ _) rfl ?_) | refine bodyPost_ret (results_none rfl _ _ _) rfl ?_
    exact H3.out
  · have HZ : Hid ((0 : Int) = keep.getD k 0) := by show _ = _; rw [List.getD_eq_getElem?_getD, List.getElem?_eq_none (by omega)]; rfl
    have hx' : ¬ (k : Int) < (nk : Int) := by omega
    clear h hk hp hK hsy hcells hnk hG hl hbl hg
    go_enter Try.func49, Try.ntmps49
    go_wp2_with fail
    refine HS.out.mono ?_
    rintro e u2 ⟨rfl, hb⟩
    have HC := HEND.out u2 hb 0 HZ.out
    obtain ⟨b0, b1⟩ := (HBK.out.later hb).cell
    obtain ⟨b2, b3⟩ := (HBP.out.later hb).cell
    have HC : Hid (Calls Try.prog 51 #[.pointer (some ⟨a, 0, none⟩), .int .i64 0] (u2.setCell ⟨Bk, 0, none⟩ (.int .i64 ((k : Int) + 1))) _) := HC
    clear hb HS HEND HI HK HBK HBP
    go_wp2_with fail
    refine HC.out.mono ?_
    rintro e u3 ⟨rfl, h3⟩
    have H3 : Hid (Crash1 Bk k n a V f (keep.getD k 0) u (.returned (.tuple #[])) u3) := h3
    clear h3 HC
    go_wp2
    first | go_end0 | (simp only [Exit.inBlock, Exit.then]; refine bodyPost_ret (results_none rfl _ _ _) rfl ?_) | refine bodyPost_ret (results_none rfl _ _ _) rfl ?_
    exact H3.out
end Go.Proofs.Ytpikepifhnkmkaa
