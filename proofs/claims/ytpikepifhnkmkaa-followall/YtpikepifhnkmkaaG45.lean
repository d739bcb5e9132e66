/- follow: Follower.Step (typed by gen/fostep.py). -/
import Derived.Test.YtpikepifhnkmkaaG44
namespace Go.Proofs.Ytpikepifhnkmkaa
open Go.RowKit Go.Maps Sf Ln Fo
attribute [local go_sem ↓] Go.wp_at_zero Go.wp_at_succ

def lmk : Option (Mrk × List UInt8) → Mrk
  | none => zeroM
  | some (m, _) => m
def ltx : Option (Mrk × List UInt8) → ByteArray
  | none => ⟨#[]⟩
  | some (_, t) => ⟨t.toArray⟩
def lineV (l : Option (Mrk × List UInt8)) : Value := .agg (mkC (lmk l) ++ [Value.string (ltx l)]).toArray
theorem lineC_eq (l : Option (Mrk × List UInt8)) : lineC l = mkC (lmk l) ++ [Value.string (ltx l)] := by
  cases l with
  | none => rfl
  | some x => obtain ⟨m, t⟩ := x; rfl
/-- block z is a line -/
def LnBx (u : World) (z : Nat) (m : Mrk) (tx : ByteArray) : Prop := u.heap[z]? = some (.cells (mkC m ++ [Value.string tx]).toArray 42 (0, 0))
theorem drew_heap (w : World) : w.drew.heap = w.heap := rfl
set_option maxHeartbeats 1000000 in
theorem ln_set {w1 : World} {z : Nat} (hst : w1.heap[z]? = some (.cells #[.int .i64 0, .int .i64 0, .int .i64 0, .int .i64 0, .int .i64 0, .int .i64 0, .int .i64 0, .int .i64 0, .int .i64 0, .string ⟨#[]⟩] 42 (0, 0))) (m : Mrk) (tx : ByteArray) :
    LnBx ((((((((((w1.setCell ⟨z, 0, none⟩ (.int .i64 m.s)).setCell ⟨z, 1, none⟩ (.int .i64 m.n)).setCell ⟨z, 2, none⟩ (.int .i64 m.g)).setCell ⟨z, 3, none⟩ (.int .i64 m.o)).setCell ⟨z, 4, none⟩ (.int .i64 m.ms)).setCell ⟨z, 5, none⟩ (.int .i64 m.gn)).setCell ⟨z, 6, none⟩ (.int .i64 m.ct)).setCell ⟨z, 7, none⟩ (.int .i64 m.tl)).setCell ⟨z, 8, none⟩ (.int .i64 m.lg)).setCell ⟨z, 9, none⟩ (.string tx)).drew z m tx := by
  unfold LnBx
  rw [drew_heap, heap_set (heap_set (heap_set (heap_set (heap_set (heap_set (heap_set (heap_set (heap_set (heap_set hst 0 (.int .i64 m.s)) 1 (.int .i64 m.n)) 2 (.int .i64 m.g)) 3 (.int .i64 m.o)) 4 (.int .i64 m.ms)) 5 (.int .i64 m.gn)) 6 (.int .i64 m.ct)) 7 (.int .i64 m.tl)) 8 (.int .i64 m.lg)) 9 (.string tx)]
  simp [mkC]
theorem step_res {tmps : Array Value} {u : World} {z : Nat} {l : Option (Mrk × List UInt8)} {x : Bool} (h4 : tmps[4]?.getD undef = .pointer (some ⟨z, 0, none⟩)) (h5 : tmps[5]?.getD undef = .bool x) (h : LnBx u z (lmk l) (ltx l)) : (results Try.f11 tmps).run Try.prog u = .ok (.tuple #[lineV l, .bool x]) u := by
  unfold lineV
  obtain ⟨m, hm⟩ : ∃ m, lmk l = m := ⟨_, rfl⟩
  obtain ⟨tx, htx⟩ : ∃ tx, ltx l = tx := ⟨_, rfl⟩
  rw [hm, htx] at h ⊢
  have c0 : u.cell? ⟨z, 0, none⟩ = some (.int .i64 m.s) := by simp [World.cell?, show u.heap[z]? = _ from h, mkC]
  have c1 : u.cell? ⟨z, 1, none⟩ = some (.int .i64 m.n) := by simp [World.cell?, show u.heap[z]? = _ from h, mkC]
  have c2 : u.cell? ⟨z, 2, none⟩ = some (.int .i64 m.g) := by simp [World.cell?, show u.heap[z]? = _ from h, mkC]
  have c3 : u.cell? ⟨z, 3, none⟩ = some (.int .i64 m.o) := by simp [World.cell?, show u.heap[z]? = _ from h, mkC]
  have c4 : u.cell? ⟨z, 4, none⟩ = some (.int .i64 m.ms) := by simp [World.cell?, show u.heap[z]? = _ from h, mkC]
  have c5 : u.cell? ⟨z, 5, none⟩ = some (.int .i64 m.gn) := by simp [World.cell?, show u.heap[z]? = _ from h, mkC]
  have c6 : u.cell? ⟨z, 6, none⟩ = some (.int .i64 m.ct) := by simp [World.cell?, show u.heap[z]? = _ from h, mkC]
  have c7 : u.cell? ⟨z, 7, none⟩ = some (.int .i64 m.tl) := by simp [World.cell?, show u.heap[z]? = _ from h, mkC]
  have c8 : u.cell? ⟨z, 8, none⟩ = some (.int .i64 m.lg) := by simp [World.cell?, show u.heap[z]? = _ from h, mkC]
  have c9 : u.cell? ⟨z, 9, none⟩ = some (.string tx) := by simp [World.cell?, show u.heap[z]? = _ from h, mkC]
  simp [results, Try.results11, go_sem, h4, h5, c0, c1, c2, c3, c4, c5, c6, c7, c8, c9, mkC]
def StepPost (F B : Nat) (V : Value) (f : Fo) (d : Dk) (w : World) (e : Ending) (w' : World) : Prop := e = .returned (.tuple #[lineV ((f.line d).map fun t => (f.m, t)), .bool (f.line d).isSome]) ∧ FTo F B V (f.step d) w w'
set_option maxRecDepth 8000 in
set_option maxHeartbeats 4000000 in
theorem fstep_fn {w : World} {F B Bd K C : Nat} {V : Value} {f : Fo} {P : Nat → Prop} {d : Dk} (h : FoAt w F B V f) (hk : f.Ok C) (hC : C ≤ 1000000000) (hd : Dsk P w Bd d K) :
    Calls Try.prog 11 #[.pointer (some ⟨F, 0, none⟩), .pointer (some ⟨Bd, 0, none⟩)] w (StepPost F B V f d w) := by
  obtain ⟨w1, hw1⟩ : ∃ w1, w.alloc (.cells #[.int .i64 0, .int .i64 0, .int .i64 0, .int .i64 0, .int .i64 0, .int .i64 0, .int .i64 0, .int .i64 0, .int .i64 0, .string ⟨#[]⟩] 42) = w1 := ⟨_, rfl⟩
  obtain ⟨z, hz⟩ : ∃ z, w.heap.size = z := ⟨_, rfl⟩
  have k1 : Below w.heap.size w w1 := by rw [← hw1]; exact (Below.refl _ _).alloc (Nat.le_refl _) _
  have hz1 : w1.heap[z]? = some (.cells #[.int .i64 0, .int .i64 0, .int .i64 0, .int .i64 0, .int .i64 0, .int .i64 0, .int .i64 0, .int .i64 0, .int .i64 0, .string ⟨#[]⟩] 42 (0, 0)) := by rw [← hw1, ← hz]; exact heap_alloc_new w _
  have HW1 : Hid (w.alloc (.cells #[.int .i64 0, .int .i64 0, .int .i64 0, .int .i64 0, .int .i64 0, .int .i64 0, .int .i64 0, .int .i64 0, .int .i64 0, .string ⟨#[]⟩] 42) = w1 ∧ w.heap.size = z) := ⟨hw1, hz⟩
  obtain ⟨w2, hw2⟩ : ∃ w2, w1.alloc (.cells #[.pointer (some ⟨Bd, 0, none⟩), .int .i64 0, .int .i64 0, .int .i64 0, .int .i64 0, .int .i64 0, .int .i64 0, .int .i64 0, .int .i64 0, .int .i64 0, .string ⟨#[]⟩, .bool false] 88) = w2 := ⟨_, rfl⟩
  obtain ⟨Tb, hTb⟩ : ∃ T, w1.heap.size = T := ⟨_, rfl⟩
  have k2 : Below w1.heap.size w1 w2 := by rw [← hw2]; exact (Below.refl _ _).alloc (Nat.le_refl _) _
  have ht2 : TuC w2 Tb (tuC Bd none) := by rw [← hw2, ← hTb]; exact heap_alloc_new w1 _
  have HW2 : Hid (w1.alloc (.cells #[.pointer (some ⟨Bd, 0, none⟩), .int .i64 0, .int .i64 0, .int .i64 0, .int .i64 0, .int .i64 0, .int .i64 0, .int .i64 0, .int .i64 0, .int .i64 0, .string ⟨#[]⟩, .bool false] 88) = w2 ∧ w1.heap.size = Tb) := ⟨hw2, hTb⟩
  have k12 : Below w.heap.size w w2 := below_step k1 k2
  have hz2 := (k2.block z (Array.getElem?_eq_some_iff.1 hz1).1).trans hz1
  have hzl : z < w1.heap.size := (Array.getElem?_eq_some_iff.1 hz1).1
  have HC : Hid (Calls Try.prog 28 #[.pointer (some ⟨F, 0, none⟩), .pointer (some ⟨Tb, 0, none⟩)] w2 _) := step_fn (h.later k12) hk hC (hd.later k12) ht2
  have HH : Hid (FoAt w F B V f ∧ Below w.heap.size w w2 ∧ w2.heap[z]? = some (.cells #[.int .i64 0, .int .i64 0, .int .i64 0, .int .i64 0, .int .i64 0, .int .i64 0, .int .i64 0, .int .i64 0, .int .i64 0, .string ⟨#[]⟩] 42 (0, 0)) ∧ z < Tb ∧ w.heap.size ≤ z) := ⟨h, k12, hz2, by omega, by omega⟩
  clear h hk hC hd hw1 hz k1 hz1 hw2 hTb k2 ht2 k12 hz2 hzl
  go_enter Try.func11, Try.ntmps11
  go_upto_region 1 with fail
  rw [HW1.out.1, HW1.out.2]
  clear HW1
  go_wp2_with fail
  rw [HW2.out.1, HW2.out.2]
  clear HW2
  refine HC.out.mono ?_
  rintro e w4 ⟨rfl, hst, htu⟩
  obtain ⟨l, hl⟩ : ∃ l, ((f.line d).map fun t => (f.m, t)) = l := ⟨_, rfl⟩
  have hls : l.isSome = (f.line d).isSome := by rw [← hl]; cases f.line d <;> rfl
  rw [hl] at htu
  have hz4 : w4.heap[z]? = some (.cells #[.int .i64 0, .int .i64 0, .int .i64 0, .int .i64 0, .int .i64 0, .int .i64 0, .int .i64 0, .int .i64 0, .int .i64 0, .string ⟨#[]⟩] 42 (0, 0)) := by
    obtain ⟨V', _, _, h3⟩ := hst
    refine (h3.block z (Array.getElem?_eq_some_iff.1 HH.out.2.2.1).1 (fun e => ?_)).trans HH.out.2.2.1
    have a1 := HH.out.1.b.lt
    have a2 := HH.out.1.m.b.lt
    have a3 := HH.out.2.2.2
    rcases e with e | e | e | e
    · omega
    · omega
    · have := (HH.out.1.m.o.ty e).2; omega
    · omega
  have HE0 : Hid (STo F B Tb V (f.step d) w2 w4) := hst
  obtain ⟨m, hm⟩ : ∃ m, lmk l = m := ⟨_, rfl⟩
  obtain ⟨tx, htx⟩ : ∃ tx, ltx l = tx := ⟨_, rfl⟩
  have hlc : lineC l = mkC m ++ [Value.string tx] := by rw [lineC_eq, hm, htx]
  obtain ⟨sb, hsb⟩ : ∃ sb, l.isSome = sb := ⟨_, rfl⟩
  have d1 : w4.cell? ⟨Tb, 1, none⟩ = some (.int .i64 m.s) := by simp [World.cell?, show w4.heap[Tb]? = _ from htu, tuC, hlc, mkC]
  have d2 : w4.cell? ⟨Tb, 2, none⟩ = some (.int .i64 m.n) := by simp [World.cell?, show w4.heap[Tb]? = _ from htu, tuC, hlc, mkC]
  have d3 : w4.cell? ⟨Tb, 3, none⟩ = some (.int .i64 m.g) := by simp [World.cell?, show w4.heap[Tb]? = _ from htu, tuC, hlc, mkC]
  have d4 : w4.cell? ⟨Tb, 4, none⟩ = some (.int .i64 m.o) := by simp [World.cell?, show w4.heap[Tb]? = _ from htu, tuC, hlc, mkC]
  have d5 : w4.cell? ⟨Tb, 5, none⟩ = some (.int .i64 m.ms) := by simp [World.cell?, show w4.heap[Tb]? = _ from htu, tuC, hlc, mkC]
  have d6 : w4.cell? ⟨Tb, 6, none⟩ = some (.int .i64 m.gn) := by simp [World.cell?, show w4.heap[Tb]? = _ from htu, tuC, hlc, mkC]
  have d7 : w4.cell? ⟨Tb, 7, none⟩ = some (.int .i64 m.ct) := by simp [World.cell?, show w4.heap[Tb]? = _ from htu, tuC, hlc, mkC]
  have d8 : w4.cell? ⟨Tb, 8, none⟩ = some (.int .i64 m.tl) := by simp [World.cell?, show w4.heap[Tb]? = _ from htu, tuC, hlc, mkC]
  have d9 : w4.cell? ⟨Tb, 9, none⟩ = some (.int .i64 m.lg) := by simp [World.cell?, show w4.heap[Tb]? = _ from htu, tuC, hlc, mkC]
  have d10 : w4.cell? ⟨Tb, 10, none⟩ = some (.string tx) := by simp [World.cell?, show w4.heap[Tb]? = _ from htu, tuC, hlc, mkC]
  have d11 : w4.cell? ⟨Tb, 11, none⟩ = some (.bool sb) := by simp [World.cell?, show w4.heap[Tb]? = _ from htu, tuC, hlc, mkC, hsb]
  have b0 : w4.cell? ⟨z, 0, none⟩ = some (.int .i64 0) := by simp [World.cell?, hz4]
  have b1 : w4.cell? ⟨z, 1, none⟩ = some (.int .i64 0) := by simp [World.cell?, hz4]
  have b2 : w4.cell? ⟨z, 2, none⟩ = some (.int .i64 0) := by simp [World.cell?, hz4]
  have b3 : w4.cell? ⟨z, 3, none⟩ = some (.int .i64 0) := by simp [World.cell?, hz4]
  have b4 : w4.cell? ⟨z, 4, none⟩ = some (.int .i64 0) := by simp [World.cell?, hz4]
  have b5 : w4.cell? ⟨z, 5, none⟩ = some (.int .i64 0) := by simp [World.cell?, hz4]
  have b6 : w4.cell? ⟨z, 6, none⟩ = some (.int .i64 0) := by simp [World.cell?, hz4]
  have b7 : w4.cell? ⟨z, 7, none⟩ = some (.int .i64 0) := by simp [World.cell?, hz4]
  have b8 : w4.cell? ⟨z, 8, none⟩ = some (.int .i64 0) := by simp [World.cell?, hz4]
  have b9 : w4.cell? ⟨z, 9, none⟩ = some (.string ⟨#[]⟩) := by simp [World.cell?, hz4]
  have hfz : ∀ j, w4.frozen? ⟨z, j, none⟩ = false := fun j => by simp [World.frozen?, hz4]
  have hTz : Tb ≠ z := by have := HH.out.2.2.2.1; omega
  have HX : Hid (LnBx ((((((((((w4.setCell ⟨z, 0, none⟩ (.int .i64 m.s)).setCell ⟨z, 1, none⟩ (.int .i64 m.n)).setCell ⟨z, 2, none⟩ (.int .i64 m.g)).setCell ⟨z, 3, none⟩ (.int .i64 m.o)).setCell ⟨z, 4, none⟩ (.int .i64 m.ms)).setCell ⟨z, 5, none⟩ (.int .i64 m.gn)).setCell ⟨z, 6, none⟩ (.int .i64 m.ct)).setCell ⟨z, 7, none⟩ (.int .i64 m.tl)).setCell ⟨z, 8, none⟩ (.int .i64 m.lg)).setCell ⟨z, 9, none⟩ (.string tx)).drew z m tx ∧ FTo F B V (f.step d) w ((((((((((w4.setCell ⟨z, 0, none⟩ (.int .i64 m.s)).setCell ⟨z, 1, none⟩ (.int .i64 m.n)).setCell ⟨z, 2, none⟩ (.int .i64 m.g)).setCell ⟨z, 3, none⟩ (.int .i64 m.o)).setCell ⟨z, 4, none⟩ (.int .i64 m.ms)).setCell ⟨z, 5, none⟩ (.int .i64 m.gn)).setCell ⟨z, 6, none⟩ (.int .i64 m.ct)).setCell ⟨z, 7, none⟩ (.int .i64 m.tl)).setCell ⟨z, 8, none⟩ (.int .i64 m.lg)).setCell ⟨z, 9, none⟩ (.string tx)).drew) := by
    have hzz := HH.out.2.2.2.2
    obtain ⟨V', a1, a2, a3⟩ := HE0.out
    have hneF : z ≠ F ∧ z ≠ B ∧ V'.ownBlock ≠ some z := by
      refine ⟨fun e => by have := HH.out.1.b.lt; omega, fun e => by have := HH.out.1.m.b.lt; omega, fun e => ?_⟩
      have hty := (a1.m.o.ty e).1
      exact absurd (TyB.ne hty ⟨_, _, hz4⟩) (by decide)
    have r0 : FoAt w4 F B V' (f.step d) ∧ FrP (fun k => k = F ∨ k = B ∨ V.ownBlock = some k ∨ w.heap.size ≤ k) w w4 := by
      refine ⟨a1, (FrP.of_below _ HH.out.2.1).trans (Q' := fun k => k = F ∨ k = B ∨ V.ownBlock = some k ∨ k = Tb) a3 (fun k _ e => ?_)⟩
      have hT := HH.out.2.2.2
      rcases e with e | e | e | e
      · exact .inl e
      · exact .inr (.inl e)
      · exact .inr (.inr (.inl e))
      · exact .inr (.inr (.inr (by omega)))
    have step : ∀ (u : World) (j : Nat) (x : Value), (FoAt u F B V' (f.step d) ∧ FrP (fun k => k = F ∨ k = B ∨ V.ownBlock = some k ∨ w.heap.size ≤ k) w u) → FoAt (u.setCell ⟨z, j, none⟩ x) F B V' (f.step d) ∧ FrP (fun k => k = F ∨ k = B ∨ V.ownBlock = some k ∨ w.heap.size ≤ k) w (u.setCell ⟨z, j, none⟩ x) := fun u j x hu =>
      ⟨⟨(Below.heap_setCell u ⟨z, j, none⟩ x F (fun e => hneF.1 e.symm)).trans hu.1.b, hu.1.m.b.same (Below.heap_setCell u ⟨z, j, none⟩ x B (fun e => hneF.2.1 e.symm)), hu.1.m.o.keep fun b hb _ => Below.heap_setCell u ⟨z, j, none⟩ x b (fun e => by subst e; exact hneF.2.2 hb)⟩, hu.2.set (fun _ => .inr (.inr (.inr hzz))) j x⟩
    have r := (step _ 9 (.string tx) (step _ 8 (.int .i64 m.lg) (step _ 7 (.int .i64 m.tl) (step _ 6 (.int .i64 m.ct) (step _ 5 (.int .i64 m.gn) (step _ 4 (.int .i64 m.ms) (step _ 3 (.int .i64 m.o) (step _ 2 (.int .i64 m.g) (step _ 1 (.int .i64 m.n) (step _ 0 (.int .i64 m.s) r0))))))))))
    refine ⟨?_, V', r.1.later ((Below.refl _ _).drew), fun b hb => ?_, ?_⟩
    · exact ln_set hz4 m tx
    · rcases a2 b hb with e | e
      · exact .inl e
      · exact .inr (Nat.le_trans HH.out.2.1.size e)
    · have hb := r.2.below ((Below.refl _ _).drew)
      exact ⟨hb.os, hb.tape, hb.output, hb.size, fun k hk hn => hb.block k hk (fun e => by
        rcases e with e | e | e | e
        · exact hn (.inl e)
        · exact hn (.inr (.inl e))
        · exact hn (.inr (.inr e))
        · omega)⟩
  have HL : Hid (((f.line d).map fun t => (f.m, t)) = l ∧ lmk l = m ∧ ltx l = tx ∧ l.isSome = sb ∧ l.isSome = (f.line d).isSome) := ⟨hl, hm, htx, hsb, hls⟩
  clear hst htu hl hls hz4 hm htx hlc hsb HC HE0 HH
  go_upto_region 3 with fail
  go_region
  go_wp2
  refine bodyPost_ret (step_res (l := l) (x := sb) rfl rfl (by rw [HL.out.2.1, HL.out.2.2.1]; exact HX.out.1)) rfl ?_
  exact ⟨by rw [HL.out.1, ← HL.out.2.2.2.2, HL.out.2.2.2.1], HX.out.2⟩
end Go.Proofs.Ytpikepifhnkmkaa
