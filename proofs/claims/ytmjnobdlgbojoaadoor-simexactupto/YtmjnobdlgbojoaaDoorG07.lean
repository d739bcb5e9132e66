/- A walk in memory; sim's enter. -/
import Derived.Test.YtmjnobdlgbojoaaDoorG06
import Derived.Deep.RegionWith
namespace Go.Proofs.YtmjnobdlgbojoaaDoor
open Go.RowKit
attribute [local go_sem ↓] Go.wp_at_zero Go.wp_at_succ

/-- THE WALK's BLOCK. -/
def WkB (w : World) (Wb mb : Nat) (Vr Vi : Value) (r : Nat) (bg : Bool) : Prop := w.heap[Wb]? = some (.cells #[.map (some mb), Vr, Vi, .int .u32 (r : Nat), .bool bg] 68 (0, 0))
section
variable {w w' : World} {Wb mb : Nat} {Vr Vi : Value} {r : Nat} {bg : Bool}
theorem WkB.lt (h : WkB w Wb mb Vr Vi r bg) : Wb < w.heap.size := (Array.getElem?_eq_some_iff.1 h).1
theorem WkB.ty (h : WkB w Wb mb Vr Vi r bg) : TyB w 68 Wb := ⟨_, _, h⟩
theorem WkB.cells (h : WkB w Wb mb Vr Vi r bg) : w.cell? ⟨Wb, 0, none⟩ = some (.map (some mb)) ∧ w.cell? ⟨Wb, 1, none⟩ = some Vr ∧ w.cell? ⟨Wb, 2, none⟩ = some Vi ∧ w.cell? ⟨Wb, 3, none⟩ = some (.int .u32 (r : Nat)) ∧ w.cell? ⟨Wb, 4, none⟩ = some (.bool bg) := by
  refine ⟨?_, ?_, ?_, ?_, ?_⟩ <;> simp [World.cell?, show w.heap[Wb]? = _ from h]
theorem WkB.frozen (h : WkB w Wb mb Vr Vi r bg) (j : Nat) : w.frozen? ⟨Wb, j, none⟩ = false := by simp [World.frozen?, show w.heap[Wb]? = _ from h]
theorem WkB.same (h : WkB w Wb mb Vr Vi r bg) (e : w'.heap[Wb]? = w.heap[Wb]?) : WkB w' Wb mb Vr Vi r bg := e.trans h
theorem WkB.setIn (h : WkB w Wb mb Vr Vi r bg) (V : Value) : WkB (w.setCell ⟨Wb, 2, none⟩ V) Wb mb Vr V r bg := by
  unfold WkB
  rw [heap_set h]
  simp
theorem WkB.setMet (h : WkB w Wb mb Vr Vi r bg) (x : Nat) : WkB (w.setCell ⟨Wb, 3, none⟩ (.int .u32 (x : Nat))) Wb mb Vr Vi x bg := by
  unfold WkB
  rw [heap_set h]
  simp
theorem WkB.setBg (h : WkB w Wb mb Vr Vi r bg) (x : Bool) : WkB (w.setCell ⟨Wb, 4, none⟩ (.bool x)) Wb mb Vr Vi r x := by
  unfold WkB
  rw [heap_set h]
  simp
end
/-- THE FRAME: all stands but two blocks. -/
structure Fr2 (A B : Nat) (w w' : World) : Prop where
  os : w'.os = w.os
  tape : w'.tape = w.tape
  output : w'.output = w.output
  size : w.heap.size ≤ w'.heap.size
  block : ∀ k, k < w.heap.size → k ≠ A → k ≠ B → w'.heap[k]? = w.heap[k]?
theorem Fr2.refl (A B : Nat) (w : World) : Fr2 A B w w := ⟨rfl, rfl, rfl, Nat.le_refl _, fun _ _ _ _ => rfl⟩
theorem Fr2.trans {A B : Nat} {w u v : World} (h : Fr2 A B w u) (h2 : Fr2 A B u v) : Fr2 A B w v :=
  ⟨h2.os.trans h.os, h2.tape.trans h.tape, h2.output.trans h.output, Nat.le_trans h.size h2.size, fun k hk h3 h4 => (h2.block k (Nat.lt_of_lt_of_le hk h.size) h3 h4).trans (h.block k hk h3 h4)⟩
theorem Fr2.grown {A B : Nat} {w u : World} (hg : w.grownBy u (some B)) : Fr2 A B w u := ⟨hg.os, hg.tape, hg.output, hg.size, fun k hk _ h4 => hg.block k hk (fun e => h4 (by cases e; rfl))⟩
theorem Fr2.below {A B : Nat} {w u : World} (hg : Below w.heap.size w u) : Fr2 A B w u := ⟨hg.os, hg.tape, hg.output, hg.size, fun k hk _ _ => hg.block k hk⟩
theorem Fr2.set (A B : Nat) (w : World) (j : Nat) (v : Value) : Fr2 A B w (w.setCell ⟨A, j, none⟩ v) := ⟨rfl, rfl, rfl, by simp, fun k _ h3 _ => Below.heap_setCell w ⟨A, j, none⟩ v k h3⟩
theorem Fr2.drew (A B : Nat) (w : World) : Fr2 A B w w.drew := ⟨rfl, rfl, rfl, Nat.le_refl _, fun _ _ _ _ => rfl⟩
theorem Fr2.to {A B : Nat} {w u : World} (h : Fr2 A B w u) {b : Nat} (hA : b ≤ A) (hB : b ≤ B) (hb : b ≤ w.heap.size) : Below b w u := ⟨h.os, h.tape, h.output, h.size, fun k hk => h.block k (by omega) (by omega) (by omega)⟩
theorem Fr2.toG {A B : Nat} {w u : World} (h : Fr2 A B w u) (hB : w.heap.size ≤ B) : w.grownBy u (some A) := ⟨h.os, h.tape, h.output, h.size, fun k hk hne => h.block k hk (fun e => hne (by rw [e])) (by omega)⟩
theorem KsAt.same {w w' : World} {a : Option Addr} {ks : List Int} (h : KsAt w a ks) (hb : ∀ k off, a = some ⟨k, off, none⟩ → k < w.heap.size → w'.heap[k]? = w.heap[k]?) : KsAt w' a ks := by
  rcases h with h | ⟨b, off, rfl, hc⟩
  · exact Or.inl h
  · exact Or.inr ⟨b, off, rfl, fun j x hj => (World.cell?_of_block (a := ⟨b, off + j, none⟩) (hb b off rfl (lt_of_cell (hc j x hj)))).trans (hc j x hj)⟩
set_option maxRecDepth 8000 in
set_option maxHeartbeats 8000000 in
theorem enter_any {X : Nat → Prop} (Wb mb b n c base kn kc S rc r0 : Nat) (ra : Option Addr) (Vi : Value) (bg : Bool) (a : Option Addr) (ks : List Int) (M : Ma) (f : Oct.S) (w : World) (hM : Fits M S) (hSn : S ≤ 64 * n) (hn : n ≤ 2513169434900) (hel : M.es.length ≤ 2513169434900)
    (hW : WkB w Wb mb (.slice ra S rc) Vi r0 bg) (hBy : ByAt X w mb M.es) (hU : UAt X w ra M.rs) (hX : ∀ k, X k → k ≠ b ∧ k ≠ Wb) (hR : RowG w base b n c f) (hT : Tab w) (hb0 : b ≠ 0) (hW0 : Wb ≠ 0) (hr0 : r0 < 4294967296)
    (hkn : ks.length = kn) (hk1 : kn ≤ 1000) (hK : KsAt w a ks) (hkb : ∀ k off, a = some ⟨k, off, none⟩ → k ≠ b)
    (hf : ∀ s, f s = true → s < S) (hcnt : ∀ g : Oct.S, (∀ s, g s = true → Rch M.es (fun y => hasK ks y.k) (Oct.ins f 0) s) → (Oct.els g (64 * n)).length ≤ 17592186044415) :
    Calls Tryd.prog 28 #[.pointer (some ⟨Wb, 0, none⟩), .slice (some ⟨b, 0, none⟩) n c, .slice a kn kc] w fun e w' => e = .returned (.tuple #[]) ∧ ∃ g, IsCl M.es (fun y => hasK ks y.k) (Oct.ins f 0) g ∧ WkB w' Wb mb (.slice ra S rc) (.slice (some ⟨b, 0, none⟩) n c) (r0 ||| rulesG M.rs g) bg ∧ RowG w' base b n c g ∧ Fr2 Wb b w w' := by
  obtain ⟨hS1, hMS, hrs, hed, h32⟩ := hM
  have hWlt := hW.lt
  have hblt := hR.lt.1
  have hne : Wb ≠ b := fun e => by
    have h1 := hW.ty
    rw [e] at h1
    exact absurd (TyB.ne h1 hR.ty) (by decide)
  have hmb : mb ≠ b := fun e => hBy.no _ (by rw [e]; exact hR.ty)
  have hmW : mb ≠ Wb := fun e => hBy.no _ (by rw [e]; exact hW.ty)
  have h0n : (0 : Nat) < 64 * n := by omega
  have HADD : Hid (Calls Tryd.prog 36 #[.slice (some ⟨b, 0, none⟩) n c, .int .i64 0] w fun e w' => e = .returned (.tuple #[]) ∧ RowG w' base b n c (Oct.ins f 0) ∧ w.grownBy w' (some b)) := addRow_any base b n c 0 f w hR h0n hn
  have hfi : ∀ s, Oct.ins f 0 s = true → s < S := fun s hs => by
    unfold Oct.ins at hs
    simp only [Bool.or_eq_true, beq_iff_eq] at hs
    rcases hs with hs | hs
    · omega
    · exact hf s hs
  have HSPR : Hid (∀ u, w.grownBy u (some b) → RowG u base b n c (Oct.ins f 0) → Calls Tryd.prog 33 #[.pointer (some ⟨Wb, 0, none⟩), .slice (some ⟨b, 0, none⟩) n c, .slice a kn kc] u fun e w' => e = .returned (.tuple #[]) ∧ ∃ g, IsCl M.es (fun y => hasK ks y.k) (Oct.ins f 0) g ∧ RowG w' base b n c g ∧ u.grownBy w' (some b)) := fun u hg hr => by
    have hold : ∀ k, k < w.heap.size → k ≠ b → u.heap[k]? = w.heap[k]? := fun k hk h => hg.block k hk (fun e => h (by cases e; rfl))
    exact spread_any Wb mb b n c base kn kc a ks M.es (Oct.ins f 0) u (hW.same (hold Wb hWlt hne)).cells.1 hne (hBy.keep (Y := X) (hold mb hBy.lt hmb) (fun _ h _ => h) (fun k h hl => hold k hl (hX k h).1)) (fun k h => (hX k h).1) hmb hr (hT.keep (hold 0 hT.pos (fun e => hb0 e.symm))) hb0 hn hkn hk1 (hK.same (fun k off e hl => hold k hl (hkb k off e))) hkb (fun s hs => Nat.lt_of_lt_of_le (hfi s hs) hSn) (fun y hy => by have := hed y hy; omega) hel hcnt
  have HRUL : Hid (∀ u g, Fr2 Wb b w u → RowG u base b n c g → u.cell? ⟨Wb, 1, none⟩ = some (.slice ra S rc) → (∀ s, g s = true → s < S) → Calls Tryd.prog 34 #[.pointer (some ⟨Wb, 0, none⟩), .slice (some ⟨b, 0, none⟩) n c] u fun e W' => e = .returned (.int .u32 (rulesG M.rs g : Nat)) ∧ Below u.heap.size u W') := fun u g hg hr hc hlt => by
    have h := rulesOf_any (X := X) Wb b n c base S rc ra M.rs g u hc hrs (hU.keep (fun _ h _ => h) (fun k h hl => hg.block k hl (hX k h).2 (hX k h).1)) h32 hr (hT.keep (hg.block 0 hT.pos (fun e => hW0 e.symm) (fun e => hb0 e.symm))) hn hlt
    rw [els_all hlt hSn, ← hrs] at h
    exact h
  have HLT : Hid (∀ g, IsCl M.es (fun y => hasK ks y.k) (Oct.ins f 0) g → ∀ s, g s = true → s < S) := fun g hg s hs => hg.lt hfi (fun y hy => by have := hed y hy; omega) hs
  have HWK : Hid (WkB w Wb mb (.slice ra S rc) Vi r0 bg) := hW
  have HNE : Hid (Wb ≠ b) := hne
  have H32 : Hid (∀ x ∈ M.rs, x < 4294967296) := h32
  clear hW hBy hU hX hR hT hkn hK hkb hf hcnt hfi hMS hrs hed h32 hmb hmW hne
  go_enter Tryd.func28, Tryd.ntmps28
  go_wp2_with fail
  refine HADD.out.mono ?_
  rintro e w1 ⟨rfl, hr1, hg1⟩
  have HC : Hid (Calls Tryd.prog 33 #[.pointer (some ⟨Wb, 0, none⟩), .slice (some ⟨b, 0, none⟩) n c, .slice a kn kc] w1 _) := HSPR.out w1 hg1 hr1
  have HG1 : Hid (Fr2 Wb b w w1) := Fr2.grown hg1
  have HWK1 : Hid (WkB w1 Wb mb (.slice ra S rc) Vi r0 bg) := HWK.out.same (hg1.block Wb hWlt (fun e => HNE.out (by cases e; rfl)))
  clear hr1 hg1 HADD HSPR HWK
  go_wp2_with fail
  refine HC.out.mono ?_
  rintro e w2 ⟨rfl, g, hcl, hr2, hg2⟩
  have HCL : Hid (IsCl M.es (fun y => hasK ks y.k) (Oct.ins f 0) g) := hcl
  have hwk2 : WkB w2 Wb mb (.slice ra S rc) Vi r0 bg := HWK1.out.same (hg2.block Wb HWK1.out.lt (fun e => HNE.out (by cases e; rfl)))
  obtain ⟨_, _, p2, _, _⟩ := hwk2.cells
  have q2 := hwk2.frozen 2
  have hwk3 := hwk2.setIn (.slice (some ⟨b, 0, none⟩) n c)
  have hr3 : RowG (w2.setCell ⟨Wb, 2, none⟩ (.slice (some ⟨b, 0, none⟩) n c)) base b n c g := hr2.same (Below.heap_setCell w2 ⟨Wb, 2, none⟩ _ b (fun e => HNE.out (by have e : b = Wb := e; exact e.symm)))
  have hf3 : Fr2 Wb b w (w2.setCell ⟨Wb, 2, none⟩ (.slice (some ⟨b, 0, none⟩) n c)) := (HG1.out.trans (Fr2.grown hg2)).trans (Fr2.set Wb b w2 2 _)
  obtain ⟨w3, hw3⟩ : ∃ w3, w2.setCell ⟨Wb, 2, none⟩ (.slice (some ⟨b, 0, none⟩) n c) = w3 := ⟨_, rfl⟩
  rw [hw3] at hwk3 hr3 hf3
  have HW3 : Hid (w2.setCell ⟨Wb, 2, none⟩ (.slice (some ⟨b, 0, none⟩) n c) = w3) := hw3
  have HWK3 : Hid (WkB w3 Wb mb (.slice ra S rc) (.slice (some ⟨b, 0, none⟩) n c) r0 bg) := hwk3
  have HR3 : Hid (RowG w3 base b n c g) := hr3
  have HF3 : Hid (Fr2 Wb b w w3) := hf3
  have hlt := HLT.out g hcl
  have HRU : Hid (∀ u, Below w3.heap.size w3 u → Calls Tryd.prog 34 #[.pointer (some ⟨Wb, 0, none⟩), .slice (some ⟨b, 0, none⟩) n c] u fun e W' => e = .returned (.int .u32 (rulesG M.rs g : Nat)) ∧ Below u.heap.size u W') := fun u hu =>
    HRUL.out u g (HF3.out.trans (Fr2.below hu)) (HR3.out.later hu) (HWK3.out.same (hu.block Wb HWK3.out.lt)).cells.2.1 hlt
  obtain ⟨ρ, hρ⟩ : ∃ ρ, rulesG M.rs g = ρ := ⟨_, rfl⟩
  have hρl : ρ < 4294967296 := by rw [← hρ]; exact rulesG_lt H32.out
  rw [hρ] at HRU
  have HRHO : Hid (rulesG M.rs g = ρ) := hρ
  have HOR : Hid (bits .or .u32 (r0 : Nat) (ρ : Nat) = ((r0 ||| ρ : Nat) : Int)) := u32_or_nat r0 ρ hr0 hρl
  have HEND : Hid (∀ u, Below w3.heap.size w3 u → WkB (u.setCell ⟨Wb, 3, none⟩ (.int .u32 ((r0 ||| ρ : Nat) : Int))) Wb mb (.slice ra S rc) (.slice (some ⟨b, 0, none⟩) n c) (r0 ||| ρ) bg ∧ RowG (u.setCell ⟨Wb, 3, none⟩ (.int .u32 ((r0 ||| ρ : Nat) : Int))) base b n c g ∧ Fr2 Wb b w (u.setCell ⟨Wb, 3, none⟩ (.int .u32 ((r0 ||| ρ : Nat) : Int)))) := fun u hu =>
    ⟨(HWK3.out.same (hu.block Wb HWK3.out.lt)).setMet _, (HR3.out.later hu).same (Below.heap_setCell u ⟨Wb, 3, none⟩ _ b (fun e => HNE.out (by have e : b = Wb := e; exact e.symm))), (HF3.out.trans (Fr2.below hu)).trans (Fr2.set Wb b u 3 _)⟩
  have HFC : Hid (∀ u, Below w3.heap.size w3 u → u.cell? ⟨Wb, 3, none⟩ = some (.int .u32 (r0 : Nat)) ∧ u.frozen? ⟨Wb, 3, none⟩ = false) := fun u hu => ⟨(HWK3.out.same (hu.block Wb HWK3.out.lt)).cells.2.2.2.1, (HWK3.out.same (hu.block Wb HWK3.out.lt)).frozen 3⟩
  obtain ⟨c3, f3⟩ := HFC.out w3 (Below.refl _ _)
  clear hcl hr2 hg2 hwk2 hwk3 hr3 hf3 hlt hρ hw3 HC HRUL HWK1
  go_upto_region 3 with fail
  rw [HW3.out]
  clear HW3 p2 q2
  go_region_with (go_at_call 34; refine (HRU.out _ ((Below.refl _ _).drew)).mono ?_; rintro e u ⟨rfl, hu⟩; have HU : Hid (Below w3.heap.size w3 u) := (((Below.refl _ w3).drew).trans hu); obtain ⟨c4, f4⟩ := HFC.out u HU.out; clear hu)
  all_goals
    go_wp2
    go_end0
    obtain ⟨h1, h2, h3⟩ := HEND.out _ HU.out
    rw [← HOR.out] at h1 h2 h3
    refine ⟨rfl, g, HCL.out, ?_, h2, h3⟩
    rw [HRHO.out]
    exact h1
end Go.Proofs.YtmjnobdlgbojoaaDoor

/- sim.Begin. -/
namespace Go.Proofs.YtmjnobdlgbojoaaDoor
open Go.RowKit
attribute [local go_sem ↓] Go.wp_at_zero Go.wp_at_succ

/-! ### counting -/
theorem nodup_le {l m : List Nat} (hl : l.Nodup) (h : ∀ x ∈ l, x ∈ m) : l.length ≤ m.length := by
  induction l generalizing m with
  | nil => simp
  | cons x l ih =>
    have hx := h x (by simp)
    obtain ⟨h1, h2⟩ := List.nodup_cons.1 hl
    have := ih (m := m.erase x) h2 (fun y hy => by
      have hne : y ≠ x := fun e => h1 (e ▸ hy)
      exact (List.mem_erase_of_ne hne).2 (h y (by simp [hy])))
    rw [List.length_erase_of_mem hx] at this
    have h3 : 0 < m.length := List.length_pos_of_mem hx
    simp only [List.length_cons]
    omega
theorem els_nodup (g : Oct.S) (n : Nat) : (Oct.els g n).Nodup := List.Pairwise.imp (fun h => Nat.ne_of_lt h) (Oct.els_sorted g n)
theorem cnt_le {es : List Eg} {g : Oct.S} {n : Nat} (h : ∀ s, g s = true → s = 0 ∨ ∃ y ∈ es, y.t.toNat = s) : (Oct.els g n).length ≤ es.length + 1 := by
  have := nodup_le (els_nodup g n) (m := 0 :: es.map fun y => y.t.toNat) (fun x hx => by
    rcases h x (Oct.mem_els.1 hx).2 with h | ⟨y, hy, h⟩
    · simp [h]
    · exact List.mem_cons_of_mem _ (List.mem_map.2 ⟨y, hy, h⟩))
  simpa using this
theorem rch_cnt {es : List Eg} {p : Eg → Bool} {f : Oct.S} (hf : ∀ s, f s = true → s = 0 ∨ ∃ y ∈ es, y.t.toNat = s) {s : Nat} (h : Rch es p f s) : s = 0 ∨ ∃ y ∈ es, y.t.toNat = s := by
  cases h with
  | base s h => exact hf s h
  | step y h1 _ _ => exact Or.inr ⟨y, h1, rfl⟩
/-! ### the kinds that count -/
theorem kinds_1 : (fun y : Eg => hasK [1] y.k) = kmov false false := by funext y; unfold hasK kmov; rw [Bool.eq_iff_iff]; simp
theorem kinds_13 : (fun y : Eg => hasK [1, 3] y.k) = kmov true false := by funext y; unfold hasK kmov; rw [Bool.eq_iff_iff]; simp
theorem kinds_14 : (fun y : Eg => hasK [1, 4] y.k) = kmov false true := by funext y; unfold hasK kmov; rw [Bool.eq_iff_iff]; simp
theorem kinds_143 : (fun y : Eg => hasK [1, 4, 3] y.k) = kmov true true := by funext y; unfold hasK kmov; rw [Bool.eq_iff_iff]; simp; omega
theorem ins_none : Oct.ins Oct.none 0 = zeroS := by funext s; unfold Oct.ins Oct.none zeroS; rw [Bool.eq_iff_iff]; simp
/-- A WALK IN MEMORY of its own, from a block on. -/
def WkAt (base : Nat) (w : World) (Wb : Nat) (M : Ma) (S : Nat) (g : Oct.S) (r : Nat) (bg : Bool) : Prop :=
  base ≤ Wb ∧ ∃ mb ra rc b c, WkB w Wb mb (.slice ra S rc) (.slice (some ⟨b, 0, none⟩) ((S + 63) / 64) c) r bg ∧ base ≤ mb ∧ ByAt (fun k => base ≤ k ∧ TyB w 34 k) w mb M.es ∧ UAt (fun k => base ≤ k ∧ TyB w 28 k) w ra M.rs ∧ RowG w base b ((S + 63) / 64) c g
section
variable {base : Nat} {w w' : World} {Wb : Nat} {M : Ma} {S : Nat} {g : Oct.S} {r : Nat} {bg : Bool}
theorem WkAt.lt (h : WkAt base w Wb M S g r bg) : Wb < w.heap.size := by obtain ⟨_, mb, ra, rc, b, c, h1, _⟩ := h; exact h1.lt
theorem WkAt.ty (h : WkAt base w Wb M S g r bg) : TyB w 68 Wb := by obtain ⟨_, mb, ra, rc, b, c, h1, _⟩ := h; exact h1.ty
theorem WkAt.keep (h : WkAt base w Wb M S g r bg) (hk : ∀ k, base ≤ k → k < w.heap.size → (k = Wb ∨ TyB w 34 k ∨ TyB w 28 k ∨ TyB w 30 k ∨ MpB w k) → w'.heap[k]? = w.heap[k]?) : WkAt base w' Wb M S g r bg := by
  have hlt := h.lt
  obtain ⟨h0, mb, ra, rc, b, c, h1, h2, h3, h4, h5⟩ := h
  refine ⟨h0, mb, ra, rc, b, c, h1.same (hk Wb h0 hlt (Or.inl rfl)), h2, ?_, ?_, h5.same (hk b h5.lt.2.1 h5.lt.1 (by simp [h5.ty]))⟩
  · exact h3.keep (hk mb h2 h3.lt (Or.inr (Or.inr (Or.inr (Or.inr h3.mp))))) (fun k hX hl => ⟨hX.1, hX.2.same (hk k hX.1 hl (by simp [hX.2]))⟩) (fun k hX hl => hk k hX.1 hl (by simp [hX.2]))
  · exact h4.keep (fun k hX hl => ⟨hX.1, hX.2.same (hk k hX.1 hl (by simp [hX.2]))⟩) (fun k hX hl => hk k hX.1 hl (by simp [hX.2]))
theorem WkAt.later (h : WkAt base w Wb M S g r bg) (hb : Below w.heap.size w w') : WkAt base w' Wb M S g r bg := h.keep (fun k _ hl _ => hb.block k hl)
/-- another block of another type is written -/
theorem WkAt.other (h : WkAt base w Wb M S g r bg) {A : Nat} {t : TypeId} (hg : w.grownBy w' (some A)) (hA : TyB w t A) (h1 : t ≠ 34) (h2 : t ≠ 28) (h3 : t ≠ 30) (hne : A ≠ Wb) : WkAt base w' Wb M S g r bg :=
  h.keep (fun k _ hl hc => hg.block k hl (fun e => by
    cases e
    rcases hc with hc | hc | hc | hc | hc
    · exact hne hc
    · exact h1 (TyB.ne hA hc)
    · exact h2 (TyB.ne hA hc)
    · exact h3 (TyB.ne hA hc)
    · exact hc.no t hA))
/-- all below the walk's blocks may turn -/
theorem WkAt.up (h : WkAt base w Wb M S g r bg) {b : Nat} (hk : ∀ k, base ≤ k → k < w.heap.size → w'.heap[k]? = w.heap[k]?) (_hb : b = b) : WkAt base w' Wb M S g r bg := h.keep (fun k hb hl _ => hk k hb hl)
end
section
variable {o : Oper} {a : Act} {w w' : World} {r : Value → World → Prop} {Q : Exit → Act → World → Prop}
attribute [local go_sem] Oper.semAt_some
theorem sx_duty {P : Program} {ops : Array Oper} {w0 : World} {D : Nat → Nat} {R : Nat → Value → World → Prop} {F0 : Act → Prop} {i : Nat} (hd : o.dst = some (D i)) (ha : ∀ e ∈ o.after, e.on < i) (hg : o.guard = none)
    (h : ∀ a w, F0 a → Below w0.heap.size w0 w → (∀ e ∈ o.after, Region.binds .any e = true → R e.on (T a (D e.on)) w) → ∀ Q, o.wp P a w (Leaves (R i) o a w) Q) : Duty P ops w0 D R F0 i o :=
  ⟨hd, ha, fun a w hF hB hE => ⟨fun _ => h a w hF hB hE, fun hw => by rw [wanted_free hg] at hw; cases hw⟩⟩
theorem sx_value {v : Value} (h : (execOp a.eval o).run Tryd.prog w = .ok (.value v) w') (hb : Below w.heap.size w w') (hR : r v w') : o.wp Tryd.prog a w (Leaves r o a w) Q := by
  unfold Oper.wp
  rw [h]
  exact ⟨v, rfl, hb, hR⟩
theorem sx_enter {f : FuncId} {args : Array Value} (h : (execOp a.eval o).run Tryd.prog w = .ok (.enter f args) w) (hc : Calls Tryd.prog f args w fun e w' => ∃ v, e = .returned v ∧ Below w.heap.size w w' ∧ r v w') : o.wp Tryd.prog a w (Leaves r o a w) Q := by
  unfold Oper.wp
  rw [h]
  refine hc.mono ?_
  rintro e w' ⟨v, rfl, hb, hR⟩
  exact ⟨v, rfl, hb, hR⟩
theorem sx_call1 {p f : Nat} {ts : Array TypeId} (ho : o.op = .call { callee := .value (.func f), args := #[.tmp p], argTypes := ts }) (hf : ∀ (args : Array Value) (w : World), (callFunc f args).run Tryd.prog w = .ok (.enter f args) w) {v : Value} (hx : T a p = v) (hc : Calls Tryd.prog f #[v] w fun e w' => ∃ v, e = .returned v ∧ Below w.heap.size w w' ∧ r v w') : o.wp Tryd.prog a w (Leaves r o a w) Q := by
  obtain ⟨dst, op, type, pos, after, guard⟩ := o
  simp only at ho
  subst ho
  refine sx_enter (args := #[v]) ?_ hc
  simp [Act.eval, hx, go_sem]
  exact hf _ _
set_option maxRecDepth 10000 in
theorem sx_edges {p B : Nat} (ho : o.op = .fieldAddr 25 (.tmp p) 1) (hx : T a p = .pointer (some ⟨B, 0, none⟩)) (hr : r (.pointer (some ⟨B, 1, none⟩)) w) : o.wp Tryd.prog a w (Leaves r o a w) Q := by
  obtain ⟨dst, op, type, pos, after, guard⟩ := o
  simp only at ho
  subst ho
  refine sx_value (v := .pointer (some ⟨B, 1, none⟩)) (w' := w) ?_ (Below.refl _ _) hr
  simp [execOp, Act.eval, hx, go_sem]
set_option maxRecDepth 10000 in
theorem sx_rules {p B : Nat} (ho : o.op = .fieldAddr 25 (.tmp p) 2) (hx : T a p = .pointer (some ⟨B, 0, none⟩)) (hr : r (.pointer (some ⟨B, 2, none⟩)) w) : o.wp Tryd.prog a w (Leaves r o a w) Q := by
  obtain ⟨dst, op, type, pos, after, guard⟩ := o
  simp only at ho
  subst ho
  refine sx_value (v := .pointer (some ⟨B, 2, none⟩)) (w' := w) ?_ (Below.refl _ _) hr
  simp [execOp, Act.eval, hx, go_sem]
theorem sx_loadE {p : Nat} {ad : Addr} {v : Value} (ho : o.op = .load 22 (.tmp p)) (hx : T a p = .pointer (some ad)) (hc : w.cell? ad = some v) (hr : r v w) : o.wp Tryd.prog a w (Leaves r o a w) Q := by
  obtain ⟨dst, op, type, pos, after, guard⟩ := o
  simp only at ho
  subst ho
  refine sx_value (v := v) (w' := w) ?_ (Below.refl _ _) hr
  simp [execOp, Act.eval, hx, go_sem, hc]
theorem sx_loadU {p : Nat} {ad : Addr} {v : Value} (ho : o.op = .load 23 (.tmp p)) (hx : T a p = .pointer (some ad)) (hc : w.cell? ad = some v) (hr : r v w) : o.wp Tryd.prog a w (Leaves r o a w) Q := by
  obtain ⟨dst, op, type, pos, after, guard⟩ := o
  simp only at ho
  subst ho
  refine sx_value (v := v) (w' := w) ?_ (Below.refl _ _) hr
  simp [execOp, Act.eval, hx, go_sem, hc]
set_option maxRecDepth 10000 in
theorem sx_build {p q mb : Nat} {V : Value} (ho : o.op = .build 68 #[(0, .tmp p), (1, .tmp q)]) (hx : T a p = .map (some mb)) (hy : T a q = V) (hV : ∃ x n c, V = .slice x n c) (hr : r (.agg #[.map (some mb), V, .slice none 0 0, .int .u32 0, .bool false]) w) : o.wp Tryd.prog a w (Leaves r o a w) Q := by
  obtain ⟨dst, op, type, pos, after, guard⟩ := o
  simp only at ho
  subst ho
  obtain ⟨x, n, c, rfl⟩ := hV
  refine sx_value (v := .agg #[.map (some mb), .slice x n c, .slice none 0 0, .int .u32 0, .bool false]) (w' := w) ?_ (Below.refl _ _) hr
  simp [execOp, Act.eval, hx, hy, go_sem]
set_option maxRecDepth 10000 in
theorem sx_box {p mb : Nat} {V : Value} (ho : o.op = .box 68 (.tmp p)) (hx : T a p = .agg #[.map (some mb), V, .slice none 0 0, .int .u32 0, .bool false]) (hr : r (.pointer (some ⟨w.heap.size, 0, none⟩)) (w.alloc (.cells #[.map (some mb), V, .slice none 0 0, .int .u32 0, .bool false] 68))) : o.wp Tryd.prog a w (Leaves r o a w) Q := by
  obtain ⟨dst, op, type, pos, after, guard⟩ := o
  simp only at ho
  subst ho
  refine sx_value (v := .pointer (some ⟨w.heap.size, 0, none⟩)) (w' := w.alloc (.cells #[.map (some mb), V, .slice none 0 0, .int .u32 0, .bool false] 68)) ?_ ((Below.refl _ _).alloc (Nat.le_refl _) _) hr
  simp [execOp, Act.eval, hx, go_sem]
end
end Go.Proofs.YtmjnobdlgbojoaaDoor

/- sim.Begin: its drawn region and its walk. -/
namespace Go.Proofs.YtmjnobdlgbojoaaDoor
open Go.RowKit
attribute [local go_sem ↓] Go.wp_at_zero Go.wp_at_succ

def FrB (act a : Act) : Prop := a.tmps.size = 23 ∧ a.defers = act.defers ∧ ∀ k, (k < 8 ∨ 16 ≤ k) → a.tmps[k]? = act.tmps[k]?
theorem FrB.put {act a : Act} (h : FrB act a) {k : Nat} (hd : 8 ≤ k ∧ k < 16) (v : Value) : FrB act (a.put (some k) v) := by
  obtain ⟨h1, h2, h3⟩ := h
  refine ⟨by simp [Act.put, h1], by simp [Act.put, h2], fun j hj => ?_⟩
  simp only [Act.put]
  rw [Array.getElem?_setIfInBounds_ne (by omega)]
  exact h3 j hj
theorem FrB.nop {act a : Act} (h : FrB act a) (v : Value) : FrB act (a.put none v) := by
  obtain ⟨h1, h2, h3⟩ := h
  exact ⟨h1, h2, h3⟩
theorem FrB.slot {act a : Act} (h : FrB act a) {k : Nat} (hk : (k < 8 ∨ 16 ≤ k)) : T a k = Go.Proofs.YtmjnobdlgbojoaaDoor.T act k := by unfold Go.Proofs.YtmjnobdlgbojoaaDoor.T; rw [h.2.2 k hk]
theorem FrB.lit {act a : Act} (h : FrB act a) (hs : act.tmps.size = 23) : a = ((((((((act.put (some 8) (T a 8)).put (some 9) (T a 9)).put (some 10) (T a 10)).put (some 11) (T a 11)).put (some 12) (T a 12)).put (some 13) (T a 13)).put (some 14) (T a 14)).put (some 15) (T a 15)) := by
  obtain ⟨h1, h2, h3⟩ := h
  obtain ⟨tmps, defers⟩ := a
  simp only at h1 h2 h3
  simp only [Act.put, Act.mk.injEq]
  refine ⟨?_, h2⟩
  apply Array.ext_getElem?
  intro k
  have hT : ∀ j, j < 23 → tmps[j]? = some (Go.Proofs.YtmjnobdlgbojoaaDoor.T ⟨tmps, defers⟩ j) := fun j hj => by
    have : j < tmps.size := by omega
    simp [Go.Proofs.YtmjnobdlgbojoaaDoor.T, this]
  by_cases hk : (k < 8 ∨ 16 ≤ k)
  · rw [h3 k hk, Array.getElem?_setIfInBounds_ne (by omega), Array.getElem?_setIfInBounds_ne (by omega), Array.getElem?_setIfInBounds_ne (by omega), Array.getElem?_setIfInBounds_ne (by omega), Array.getElem?_setIfInBounds_ne (by omega), Array.getElem?_setIfInBounds_ne (by omega), Array.getElem?_setIfInBounds_ne (by omega), Array.getElem?_setIfInBounds_ne (by omega)]
  · have hk' : k = 8 ∨ k = 9 ∨ k = 10 ∨ k = 11 ∨ k = 12 ∨ k = 13 ∨ k = 14 ∨ k = 15 := by omega
    rcases hk' with rfl | rfl | rfl | rfl | rfl | rfl | rfl | rfl <;> rw [hT _ (by decide)] <;> simp [hs]
abbrev ByB (base : Nat) (u : World) (mb : Nat) (es : List Eg) : Prop := ByAt (fun k => base ≤ k ∧ TyB u 34 k) u mb es
abbrev UB (base : Nat) (u : World) (a : Option Addr) (rs : List Nat) : Prop := UAt (fun k => base ≤ k ∧ TyB u 28 k) u a rs
theorem byB_later {base : Nat} {u u' : World} {mb : Nat} {es : List Eg} (h : ByB base u mb es) (hb : Below u.heap.size u u') : ByB base u' mb es := h.keep (hb.block mb h.lt) (fun k hX hl => ⟨hX.1, hX.2.same (hb.block k hl)⟩) (fun k _ hl => hb.block k hl)
theorem uB_later {base : Nat} {u u' : World} {a : Option Addr} {rs : List Nat} (h : UB base u a rs) (hb : Below u.heap.size u u') : UB base u' a rs := h.keep (fun k hX hl => ⟨hX.1, hX.2.same (hb.block k hl)⟩) (fun k _ hl => hb.block k hl)
def RB3 (base A S : Nat) (ve vr : Value) (M : Ma) : Nat → Value → World → Prop
  | 0, v, _ => v = .pointer (some ⟨A, 1, none⟩)
  | 1, v, _ => v = ve
  | 2, v, u => ∃ mb, v = .map (some mb) ∧ base ≤ mb ∧ ByB base u mb M.es
  | 3, v, _ => v = .pointer (some ⟨A, 2, none⟩)
  | 4, v, _ => v = vr
  | 5, v, u => ∃ g cap, v = .slice (some ⟨g, 0, none⟩) S cap ∧ UB base u (some ⟨g, 0, none⟩) M.rs
  | 6, v, u => ∃ mb g cap, v = .agg #[.map (some mb), .slice (some ⟨g, 0, none⟩) S cap, .slice none 0 0, .int .u32 0, .bool false] ∧ base ≤ mb ∧ ByB base u mb M.es ∧ UB base u (some ⟨g, 0, none⟩) M.rs
  | 7, v, u => ∃ Wb mb g cap, v = .pointer (some ⟨Wb, 0, none⟩) ∧ base ≤ Wb ∧ WkB u Wb mb (.slice (some ⟨g, 0, none⟩) S cap) (.slice none 0 0) 0 false ∧ base ≤ mb ∧ ByB base u mb M.es ∧ UB base u (some ⟨g, 0, none⟩) M.rs
  | _, _, _ => True
set_option maxRecDepth 100000 in
set_option maxHeartbeats 1000000 in
theorem regB {act : Act} {W : World} {A S en ec rc : Nat} {ea ra : Option Addr} {M : Ma} {X : Nat → Prop} {Q : Exit → Act → World → Prop} (hT1 : T act 1 = .pointer (some ⟨A, 0, none⟩)) (hsz : act.tmps.size = 23)
    (hA1 : W.cell? ⟨A, 1, none⟩ = some (.slice ea en ec)) (hA2 : W.cell? ⟨A, 2, none⟩ = some (.slice ra S rc)) (hen : M.es.length = en) (hel : en ≤ 2513169434900) (HE0 : EAt X W ea M.es) (hwf : ∀ e ∈ M.es, -9223372036854775808 ≤ e.f ∧ e.f < 9223372036854775808) (hrn : M.rs.length = S) (hS : 1 ≤ S) (hS2 : S ≤ 35184372088832) (hU : UAt X W ra M.rs)
    (K : ∀ a1 W' Wb mb g cap, FrB act a1 → Below W.heap.size W W' → W.heap.size ≤ Wb → WkB W' Wb mb (.slice (some ⟨g, 0, none⟩) S cap) (.slice none 0 0) 0 false → W.heap.size ≤ mb → ByB W.heap.size W' mb M.es → UB W.heap.size W' (some ⟨g, 0, none⟩) M.rs → Q .normal (a1.put (some 4) (.pointer (some ⟨Wb, 0, none⟩))) W') : (Code.region 3 (opsOf Tryd.f8 3) true).wp Tryd.prog Q act W := by
  refine wp_region_last (by kernel_rfl) 8 (by kernel_rfl) (fun i => 8 + i) (RB3 W.heap.size A S (.slice ea en ec) (.slice ra S rc) M) (FrB act) ?up ?f0 ?sz ?inj (by kernel_rfl) ?duty ⟨hsz, rfl, fun _ _ => rfl⟩
  case up =>
    intro i v w w' h hb
    match i, h with
    | 0, h => exact h
    | 1, h => exact h
    | 2, ⟨mb, h1, h2, h3⟩ => exact ⟨mb, h1, h2, byB_later h3 hb⟩
    | 3, h => exact h
    | 4, h => exact h
    | 5, ⟨g, cap, h1, h2⟩ => exact ⟨g, cap, h1, uB_later h2 hb⟩
    | 6, ⟨mb, g, cap, h1, h2, h3, h4⟩ => exact ⟨mb, g, cap, h1, h2, byB_later h3 hb, uB_later h4 hb⟩
    | 7, ⟨Wb, mb, g, cap, h1, h2, h3, h4, h5, h6⟩ => exact ⟨Wb, mb, g, cap, h1, h2, h3.same (hb.block Wb h3.lt), h4, byB_later h5 hb, uB_later h6 hb⟩
    | _ + 8, _ => trivial
  case f0 =>
    intro a i v hi h
    exact h.put (by omega) v
  case sz =>
    intro a i hi h
    rw [h.1]
    show 8 + i < 23
    omega
  case inj =>
    intro i j _ _ h
    exact Nat.add_left_cancel h
  case duty =>
    refine ⟨⟨fun _ => ⟨rfl, sx_duty rfl (by simp) rfl fun a u hF hB hE Q => ?s0⟩, fun h => absurd h (by decide)⟩, ⟨fun _ => ⟨rfl, sx_duty rfl (by simp) rfl fun a u hF hB hE Q => ?s1⟩, fun h => absurd h (by decide)⟩, ⟨fun _ => ⟨rfl, sx_duty rfl (by simp) rfl fun a u hF hB hE Q => ?s2⟩, fun h => absurd h (by decide)⟩, ⟨fun _ => ⟨rfl, sx_duty rfl (by simp) rfl fun a u hF hB hE Q => ?s3⟩, fun h => absurd h (by decide)⟩, ⟨fun _ => ⟨rfl, sx_duty rfl (by simp) rfl fun a u hF hB hE Q => ?s4⟩, fun h => absurd h (by decide)⟩, ⟨fun _ => ⟨rfl, sx_duty rfl (by simp) rfl fun a u hF hB hE Q => ?s5⟩, fun h => absurd h (by decide)⟩, ⟨fun _ => ⟨rfl, sx_duty rfl (by simp) rfl fun a u hF hB hE Q => ?s6⟩, fun h => absurd h (by decide)⟩, ⟨fun _ => ⟨rfl, sx_duty rfl (by simp) rfl fun a u hF hB hE Q => ?s7⟩, fun h => absurd h (by decide)⟩, ⟨fun h => absurd h (by decide), fun _ => ⟨rfl, by simp, fun a u hF hB hR => ?last⟩⟩, trivial⟩
    case s0 => exact sx_edges rfl (by rw [hF.slot (by omega)]; exact hT1) rfl
    case s1 => exact sx_loadE rfl (hE ⟨0, .data⟩ (by simp) rfl) ((hB.cell (p := ⟨A, 1, none⟩) (lt_of_cell hA1)).trans hA1) rfl
    case s2 =>
      refine sx_call1 rfl (fun args w => by simp [go_sem]) (hE ⟨1, .data⟩ (by simp) rfl) ((leaving_any (X := X) M.es ea en ec u hen hel (HE0.keep (fun _ h _ => h) (fun k _ hl => hB.block k hl)) hwf).mono ?_)
      rintro e w' ⟨rfl, h1, h2⟩
      exact ⟨_, rfl, h2, u.heap.size, rfl, hB.size, h1.keep rfl (fun k hX _ => ⟨by have := hX.1; have := hB.size; omega, hX.2⟩) (fun _ _ _ => rfl)⟩
    case s3 => exact sx_rules rfl (by rw [hF.slot (by omega)]; exact hT1) rfl
    case s4 => exact sx_loadU rfl (hE ⟨3, .data⟩ (by simp) rfl) ((hB.cell (p := ⟨A, 2, none⟩) (lt_of_cell hA2)).trans hA2) rfl
    case s5 =>
      have hx := hE ⟨4, .data⟩ (by simp) rfl
      have hU2 : UAt X u ra M.rs := hU.keep (fun _ h _ => h) (fun k _ hl => hB.block k hl)
      rcases hU2 with h | ⟨rb, off, rfl, _, hc⟩
      · rw [h] at hrn; simp at hrn; omega
      · refine sx_call1 rfl (fun args w => by simp [go_sem]) hx ((clone32_any rb off S rc (wds M.rs) u (by rw [wds_length, hrn]) (by omega) (fun j v hj => ?_) (fun v hv => ?_) (by omega)).mono ?_)
        · unfold wds at hj
          rw [List.getElem?_map] at hj
          cases hx2 : M.rs[j]? with
          | none => rw [hx2] at hj; cases hj
          | some y =>
            rw [hx2] at hj
            cases hj
            exact hc j y hx2
        · unfold wds at hv
          obtain ⟨y, _, rfl⟩ := List.mem_map.1 hv
          rfl
        · rintro e w' ⟨g, cap, rfl, h1, h2⟩
          have h3 : RowU w' u.heap.size (.slice (some ⟨g, 0, none⟩) S cap) M.rs := by unfold RowU; rw [hrn]; exact h1
          exact ⟨_, rfl, h2, g, cap, rfl, h3.at2.keep (fun k hX _ => ⟨by have := hX.1; have := hB.size; omega, hX.2⟩) (fun _ _ _ => rfl)⟩
    case s6 =>
      obtain ⟨mb, h1, h2, h3⟩ := hE ⟨2, .data⟩ (by simp) rfl
      obtain ⟨g, cap, h4, h5⟩ := hE ⟨5, .data⟩ (by simp) rfl
      exact sx_build rfl h1 h4 ⟨_, _, _, rfl⟩ ⟨mb, g, cap, rfl, h2, h3, h5⟩
    case s7 =>
      obtain ⟨mb, g, cap, h1, h2, h3, h4⟩ := hE ⟨6, .data⟩ (by simp) rfl
      have kk : ∀ o, Below u.heap.size u (u.alloc o) := fun o => (Below.refl _ _).alloc (Nat.le_refl _) o
      exact sx_box rfl h1 ⟨u.heap.size, mb, g, cap, rfl, hB.size, heap_alloc_new u _, h2, byB_later h3 (kk _), uB_later h4 (kk _)⟩
    case last =>
      obtain ⟨Wb, mb, g, cap, h1, h2, h3, h4, h5, h6⟩ := hR 7 (by decide)
      exact oc_assign rfl h1 (K a u Wb mb g cap hF hB h2 h3 h4 h5 h6)
end Go.Proofs.YtmjnobdlgbojoaaDoor

/- sim.Begin: its walk. -/
namespace Go.Proofs.YtmjnobdlgbojoaaDoor
open Go.RowKit
attribute [local go_sem ↓] Go.wp_at_zero Go.wp_at_succ

theorem fits_of {M : Ma} (h : rightOf M = true) (h32 : ∀ x ∈ M.rs, x < 4294967296) : Fits M M.rs.length := by
  obtain ⟨h1, h2, h3⟩ := right_parts h
  exact ⟨by omega, h2.symm, rfl, fun y hy => by have := h3 y hy; omega, h32⟩
theorem ksAt_two (w : World) (t : TypeId) (x y : Int) : KsAt (w.alloc (.cells #[.int .i64 x, .int .i64 y] t)) (some ⟨w.heap.size, 0, none⟩) [x, y] := by
  refine Or.inr ⟨w.heap.size, 0, rfl, fun j z hj => ?_⟩
  have hb : (w.alloc (.cells #[.int .i64 x, .int .i64 y] t)).heap[w.heap.size]? = some (.cells #[.int .i64 x, .int .i64 y] t (0, 0)) := heap_alloc_new w _
  rcases j with _ | _ | j
  · simp at hj; subst hj; exact (cell_of_row _ _ _ _ _ _ hb).trans rfl
  · simp at hj; subst hj; exact (cell_of_row _ _ _ _ _ _ hb).trans rfl
  · simp at hj
theorem ksAt_one (w : World) (t : TypeId) (x : Int) : KsAt (w.alloc (.cells #[.int .i64 x] t)) (some ⟨w.heap.size, 0, none⟩) [x] := by
  refine Or.inr ⟨w.heap.size, 0, rfl, fun j z hj => ?_⟩
  have hb : (w.alloc (.cells #[.int .i64 x] t)).heap[w.heap.size]? = some (.cells #[.int .i64 x] t (0, 0)) := heap_alloc_new w _
  rcases j with _ | j
  · simp at hj; subst hj; exact (cell_of_row _ _ _ _ _ _ hb).trans rfl
  · simp at hj
theorem ksAt_three (w : World) (t : TypeId) (x y v : Int) : KsAt (w.alloc (.cells #[.int .i64 x, .int .i64 y, .int .i64 v] t)) (some ⟨w.heap.size, 0, none⟩) [x, y, v] := by
  refine Or.inr ⟨w.heap.size, 0, rfl, fun j z hj => ?_⟩
  have hb : (w.alloc (.cells #[.int .i64 x, .int .i64 y, .int .i64 v] t)).heap[w.heap.size]? = some (.cells #[.int .i64 x, .int .i64 y, .int .i64 v] t (0, 0)) := heap_alloc_new w _
  rcases j with _ | _ | _ | j
  · simp at hj; subst hj; exact (cell_of_row _ _ _ _ _ _ hb).trans rfl
  · simp at hj; subst hj; exact (cell_of_row _ _ _ _ _ _ hb).trans rfl
  · simp at hj; subst hj; exact (cell_of_row _ _ _ _ _ _ hb).trans rfl
  · simp at hj
/-- what Begin leaves -/
def BeginPost (w : World) (M : Ma) (e : Ending) (w' : World) : Prop := Below w.heap.size w w' ∧
  ((rightOf M = false ∧ e = .returned (.tuple #[.pointer none, .int .i64 70])) ∨ (rightOf M = true ∧ ∃ Wb g r, e = .returned (.tuple #[.pointer (some ⟨Wb, 0, none⟩), .int .i64 0]) ∧ Mom M [] g r ∧ WkAt w.heap.size w' Wb M M.rs.length g r false))
set_option maxRecDepth 8000 in
set_option maxHeartbeats 8000000 in
theorem begin_any (M : Ma) (x : Nf) (w : World) (hx : MaAt (fun _ => True) w M x) (he : M.es.length ≤ 2513169434900) (hr : M.rs.length ≤ 35184372088832) (h32 : ∀ z ∈ M.rs, z < 4294967296) (hT : Tab w) : Calls Tryd.prog 8 #[x.val] w (BeginPost w M) := by
  have kk : Below w.heap.size w (w.alloc (.cells #[.int .i64 x.S, .slice x.ea x.en x.ec, .slice x.ra x.rn x.rc] 25)) := (Below.refl _ _).alloc (Nat.le_refl _) _
  have HNX : Hid (NFB (w.alloc (.cells #[.int .i64 x.S, .slice x.ea x.en x.ec, .slice x.ra x.rn x.rc] 25)) w.heap.size x) := nfb_new w x
  have HB : Hid (Below w.heap.size w (w.alloc (.cells #[.int .i64 x.S, .slice x.ea x.en x.ec, .slice x.ra x.rn x.rc] 25))) := kk
  have HMX : Hid (MaAt (fun _ => True) (w.alloc (.cells #[.int .i64 x.S, .slice x.ea x.en x.ec, .slice x.ra x.rn x.rc] 25)) M x) := hx.later kk
  obtain ⟨w1, hw1⟩ : ∃ w1, w.alloc (.cells #[.int .i64 x.S, .slice x.ea x.en x.ec, .slice x.ra x.rn x.rc] 25) = w1 := ⟨_, rfl⟩
  rw [hw1] at HNX HB HMX
  obtain ⟨A, hA⟩ : ∃ A, w.heap.size = A := ⟨_, rfl⟩
  rw [hA] at HNX
  have HW1 : Hid (w.alloc (.cells #[.int .i64 x.S, .slice x.ea x.en x.ec, .slice x.ra x.rn x.rc] 25) = w1) := hw1
  have HAA : Hid (w.heap.size = A) := hA
  have HC : Hid (Calls Tryd.prog 6 #[x.val] w1 _) := pright_any M x w1 HMX.out (by omega) hr
  have HT : Hid (Tab w) := hT
  have H32 : Hid (∀ z ∈ M.rs, z < 4294967296) := h32
  clear kk hx hw1 hA hT h32
  obtain ⟨xS, xa, en, xc, xra, xrn, xrc⟩ := x
  unfold Nf.val at HC
  unfold Nf.val
  simp only at HC HW1 ⊢
  obtain ⟨b0, b1, b2⟩ := HNX.out.cells
  simp only at b0 b1 b2
  obtain ⟨ok, hok⟩ : ∃ ok, rightOf M = ok := ⟨_, rfl⟩
  rw [hok] at HC
  have HOK : Hid (rightOf M = ok) := hok
  clear hok
  go_enter Tryd.func8, Tryd.ntmps8
  go_upto_region 1 with fail
  rw [HW1.out, HAA.out]
  clear HW1
  go_wp2_with fail
  refine HC.out.mono ?_
  rintro e w2 ⟨rfl, k2⟩
  have HB2 : Hid (Below w.heap.size w w2) := below_step HB.out k2
  have HMX2 : Hid (MaAt (fun _ => True) w2 M ⟨xS, xa, en, xc, xra, xrn, xrc⟩) := HMX.out.later k2
  have HNX2 : Hid (NFB w2 A ⟨xS, xa, en, xc, xra, xrn, xrc⟩) := HNX.out.later k2
  clear k2 HC HMX HNX HB b0 b1 b2
  cases ok with
  | false =>
    go_wp2
    go_ret2
    exact ⟨HB2.out, Or.inl ⟨HOK.out, rfl⟩⟩
  | true =>
    obtain ⟨b0, b1, b2⟩ := HNX2.out.cells
    simp only at b0 b1 b2
    have hF := fits_of HOK.out H32.out
    obtain ⟨S, hS⟩ : ∃ S, S = M.rs.length := ⟨_, rfl⟩
    rw [← hS] at hF hr
    obtain ⟨q1, q2, q3, q4, q5⟩ := HMX2.out
    simp only at q1 q2 q3 q4 q5
    have hrs : xrn = S := by rw [q3, hS]
    have hSS : xS = (S : Nat) := by rw [q1]; exact hF.2.1
    subst hrs hSS
    have HE4 : Hid (EAt (fun _ => True) w2 xa M.es) := q4
    have HU5 : Hid (UAt (fun _ => True) w2 xra M.rs) := q5
    have HLE : Hid (M.es.length = en) := q2.symm
    have HFI : Hid (Fits M xrn) := hF
    have HSL : Hid (xrn = M.rs.length) := hS
    have hS1 : 1 ≤ xrn := hF.1
    rw [q2.symm] at he
    have HC2 : Hid (w2.cell? ⟨A, 0, none⟩ = some (.int .i64 (xrn : Nat))) := b0
    clear q1 q2 q3 q4 q5 hF hS HMX2
    go_upto_region 3 with fail
    refine regB (A := A) (S := xrn) (M := M) (X := fun _ => True) rfl rfl b1 b2 HLE.out he HE4.out (fun y hy => by have := HFI.out.2.2.2.1 y hy; omega) HSL.out.symm hS1 hr HU5.out ?_
    rintro a1 w3 Wb mb g cap hfr k3 hWb hwk hmb hby hu
    rw [hfr.lit rfl]
    have HWB : Hid (WkB w3 Wb mb (.slice (some ⟨g, 0, none⟩) xrn cap) (.slice none 0 0) 0 false) := hwk
    have HBY : Hid (ByB w2.heap.size w3 mb M.es) := hby
    have HUB : Hid (UB w2.heap.size w3 (some ⟨g, 0, none⟩) M.rs) := hu
    have HB3 : Hid (Below w.heap.size w w3) := below_step HB2.out k3
    have HPL : Hid (w.heap.size ≤ w2.heap.size ∧ w2.heap.size ≤ Wb ∧ w2.heap.size ≤ mb) := ⟨HB2.out.size, hWb, hmb⟩
    have b0' : w3.cell? ⟨A, 0, none⟩ = some (.int .i64 (xrn : Nat)) := (World.cell?_of_block (a := ⟨A, 0, none⟩) (k3.block A (lt_of_cell HC2.out))).trans HC2.out
    clear k3 hWb hwk hmb hby hu b0 b1 b2 HC2 HE4 HU5
    obtain ⟨v8, e8⟩ : ∃ v, v = T a1 8 := ⟨_, rfl⟩
    obtain ⟨v9, e9⟩ : ∃ v, v = T a1 9 := ⟨_, rfl⟩
    obtain ⟨v10, e10⟩ : ∃ v, v = T a1 10 := ⟨_, rfl⟩
    obtain ⟨v11, e11⟩ : ∃ v, v = T a1 11 := ⟨_, rfl⟩
    obtain ⟨v12, e12⟩ : ∃ v, v = T a1 12 := ⟨_, rfl⟩
    obtain ⟨v13, e13⟩ : ∃ v, v = T a1 13 := ⟨_, rfl⟩
    obtain ⟨v14, e14⟩ : ∃ v, v = T a1 14 := ⟨_, rfl⟩
    obtain ⟨v15, e15⟩ : ∃ v, v = T a1 15 := ⟨_, rfl⟩
    rw [← e8, ← e9, ← e10, ← e11, ← e12, ← e13, ← e14, ← e15]
    clear e8 e9 e10 e11 e12 e13 e14 e15 hfr
    simp only [Act.put]
    have HNR : Hid (Calls Tryd.prog 29 #[.int .i64 (xrn : Nat)] w3 _) := newRow_any xrn w3 (by omega)
    go_wp2_with fail
    refine HNR.out.mono ?_
    rintro e w4 ⟨rfl, hr4, k4⟩
    obtain ⟨n, hn⟩ : ∃ n, n = (xrn + 63) / 64 := ⟨_, rfl⟩
    rw [← hn] at hr4
    rw [← hn]
    have HN : Hid (n = (xrn + 63) / 64) := hn
    have hn1 : xrn ≤ 64 * n := by omega
    have hn2 : n ≤ 2513169434900 := by omega
    -- the kinds
    have kk : Below w4.heap.size w4 (w4.alloc (.cells #[.int .i64 1, .int .i64 3] 3)) := (Below.refl _ _).alloc (Nat.le_refl _) _
    have hks := ksAt_two w4 3 1 3
    obtain ⟨w5, hw5⟩ : ∃ w5, w4.alloc (.cells #[.int .i64 1, .int .i64 3] 3) = w5 := ⟨_, rfl⟩
    rw [hw5] at kk hks
    have HW5 : Hid (w4.alloc (.cells #[.int .i64 1, .int .i64 3] 3) = w5) := hw5
    have k35 : Below w3.heap.size w3 w5 := below_step k4 kk
    have hwk5 := HWB.out.same (k35.block Wb HWB.out.lt)
    have hby5 := byB_later HBY.out k35
    have hub5 := uB_later HUB.out k35
    obtain ⟨R, hR⟩ : ∃ R, R = w3.heap.size := ⟨_, rfl⟩
    rw [← hR] at hr4
    have hr5 : RowG w5 R R n n Oct.none := hr4.later kk
    have HRR : Hid (R = w3.heap.size) := hR
    rw [← hR]
    have hRlt : R < w4.heap.size := hr4.lt.1
    have hRne : R ≠ 0 := by have := HT.out.pos; have := HB3.out.size; omega
    have hWne : Wb ≠ 0 := by have := HT.out.pos; have := HPL.out; omega
    have hT5 : Tab w5 := HT.out.later (below_step HB3.out k35)
    obtain ⟨hS1', hMS, hrsl, hed, h32⟩ := HFI.out
    have HEN : Hid (Calls Tryd.prog 28 #[.pointer (some ⟨Wb, 0, none⟩), .slice (some ⟨R, 0, none⟩) n n, .slice (some ⟨w4.heap.size, 0, none⟩) 2 2] w5 _) :=
      enter_any (X := fun k => TyB w5 34 k ∨ TyB w5 28 k) Wb mb R n n R 2 2 xrn cap 0 (some ⟨g, 0, none⟩) (.slice none 0 0) false (some ⟨w4.heap.size, 0, none⟩) [1, 3] M Oct.none w5 HFI.out hn1 hn2 (by rw [HLE.out]; exact he) hwk5 (hby5.keep rfl (fun k h _ => Or.inl h.2) (fun _ _ _ => rfl)) (hub5.keep (fun k h _ => Or.inr h.2) (fun _ _ _ => rfl))
        (fun k h => ⟨fun e => by subst e; rcases h with h | h <;> exact absurd (TyB.ne h hr5.ty) (by decide), fun e => by subst e; rcases h with h | h <;> exact absurd (TyB.ne h hwk5.ty) (by decide)⟩) hr5 hT5 hRne hWne (by decide) rfl (by decide) hks (fun k off e => by cases e; omega) (fun s hs => by simp [Oct.none] at hs)
        (fun g hg => Nat.le_trans (cnt_le (es := M.es) (fun s hs => rch_cnt (fun t ht => Or.inl (by unfold Oct.ins Oct.none at ht; simpa using ht)) (hg s hs))) (by rw [HLE.out]; omega))
    have HX : Hid (ByB w2.heap.size w5 mb M.es ∧ UB w2.heap.size w5 (some ⟨g, 0, none⟩) M.rs ∧ TyB w5 68 Wb ∧ TyB w5 30 R ∧ R < w5.heap.size ∧ Below w.heap.size w w5 ∧ w.heap.size ≤ R) := ⟨hby5, hub5, hwk5.ty, hr5.ty, hr5.lt.1, below_step HB3.out k35, by rw [hR]; exact HB3.out.size⟩
    clear HNR hr4 k4 kk hks hw5 k35 hwk5 hby5 hub5 hr5 hT5 hn hR hS1' hMS hrsl hed h32 HWB HBY HUB
    go_wp2_with fail
    rw [HW5.out]
    refine HEN.out.mono ?_
    rintro e w6 ⟨rfl, g2, hcl, hwk6, hr6, hf6⟩
    have hmom : Mom M [] g2 (0 ||| rulesG M.rs g2) := by
      rw [Nat.zero_or]
      refine .beg g2 ?_
      rw [kinds_13, ins_none] at hcl
      exact hcl
    obtain ⟨x1, x2, x3, x4, x5, x6, x7⟩ := HX.out
    have HFIN : Hid (WkAt w.heap.size w6 Wb M xrn g2 (0 ||| rulesG M.rs g2) false) := by
      have hne : ∀ k, k < w5.heap.size → (TyB w5 34 k ∨ TyB w5 28 k ∨ ∀ t, ¬ TyB w5 t k) → w6.heap[k]? = w5.heap[k]? := fun k hl h => hf6.block k hl (fun e => by
        subst e
        rcases h with h | h | h
        · exact absurd (TyB.ne h x3) (by decide)
        · exact absurd (TyB.ne h x3) (by decide)
        · exact h _ x3) (fun e => by
        subst e
        rcases h with h | h | h
        · exact absurd (TyB.ne h x4) (by decide)
        · exact absurd (TyB.ne h x4) (by decide)
        · exact h _ x4)
      obtain ⟨p1, p2, p3⟩ := HPL.out
      refine ⟨by omega, mb, _, _, R, n, by rw [← HN.out]; exact hwk6, by omega, ?_, ?_, by rw [← HN.out]; exact hr6.upon x7⟩
      · exact x1.keep (hne mb x1.lt (Or.inr (Or.inr (fun t => x1.no t)))) (fun k h hl => ⟨by have := h.1; omega, h.2.same (hne k hl (Or.inl h.2))⟩) (fun k h hl => hne k hl (Or.inl h.2))
      · exact x2.keep (fun k h hl => ⟨by have := h.1; omega, h.2.same (hne k hl (Or.inr (Or.inl h.2)))⟩) (fun k h hl => hne k hl (Or.inr (Or.inl h.2)))
    have HBF : Hid (Below w.heap.size w w6) := x6.trans (hf6.to (by have := HPL.out; omega) x7 x6.size)
    have HMM : Hid (Mom M [] g2 (0 ||| rulesG M.rs g2)) := hmom
    clear hcl hwk6 hr6 hf6 hmom HX HEN x1 x2 x3 x4 x5 x6 x7
    go_wp2
    go_ret2
    exact ⟨HBF.out, Or.inr ⟨HOK.out, Wb, g2, _, rfl, HMM.out, by rw [← HSL.out]; exact HFIN.out⟩⟩
end Go.Proofs.YtmjnobdlgbojoaaDoor
