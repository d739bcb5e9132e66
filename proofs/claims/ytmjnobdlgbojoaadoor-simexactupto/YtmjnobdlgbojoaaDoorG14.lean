/- heronref08's walk in memory; its words and States. -/
import Derived.Test.YtmjnobdlgbojoaaDoorG12
namespace Go.Proofs.YtmjnobdlgbojoaaDoor
open Go.RowKit
attribute [local go_sem ↓] Go.wp_at_zero Go.wp_at_succ

theorem sub_set (l : List Bool) (i : Nat) : Sub l (l.set i true) := by
  refine ⟨by simp, fun j hj => ?_⟩
  rw [List.getElem?_set]
  split
  · split
    · rfl
    · rename_i h1 h2
      subst h1
      rw [List.getElem?_eq_none (by omega)] at hj
      simp at hj
  · exact hj
theorem set_sub {l k : List Bool} (h : Sub l k) {i : Nat} (hk : (k[i]?).getD false = true) : Sub (l.set i true) k := by
  refine ⟨by simpa using h.1, fun j hj => ?_⟩
  by_cases e : i = j
  · subst e; exact hk
  · rw [List.getElem?_set_ne e] at hj
    exact h.2 j hj
theorem count_set : ∀ {l : List Bool} {i : Nat}, l[i]? = some false → (l.set i true).count false + 1 = l.count false
  | [], i, h => by simp at h
  | x :: l, 0, h => by simp at h; subst h; simp
  | x :: l, i + 1, h => by
    have := count_set (l := l) (i := i) (by simpa using h)
    simp only [List.set_cons_succ, List.count_cons]
    omega
/-- the states of a row of truths, and back -/
def bsS (bs : List Bool) : Oct.S := fun s => (bs[s]?).getD false
def bsOf (g : Oct.S) (n : Nat) : List Bool := (List.range n).map g
theorem bsOf_len (g : Oct.S) (n : Nat) : (bsOf g n).length = n := by simp [bsOf]
theorem bsOf_at (g : Oct.S) {n i : Nat} (h : i < n) : (bsOf g n)[i]? = some (g i) := by simp [bsOf, h]
theorem bsOf_S (bs : List Bool) : bsOf (bsS bs) bs.length = bs := by
  apply List.ext_getElem?
  intro i
  by_cases h : i < bs.length
  · rw [bsOf_at _ h]
    unfold bsS
    rw [List.getElem?_eq_getElem h]
    rfl
  · rw [List.getElem?_eq_none (by rw [bsOf_len]; omega), List.getElem?_eq_none (by omega)]
theorem bsS_of {g : Oct.S} {n : Nat} (h : ∀ s, g s = true → s < n) : bsS (bsOf g n) = g := by
  funext s
  unfold bsS
  by_cases hs : s < n
  · rw [bsOf_at _ hs]; rfl
  · rw [List.getElem?_eq_none (by rw [bsOf_len]; omega)]
    cases e : g s with
    | true => exact absurd (h s e) hs
    | false => rfl
theorem bsS_lt {bs : List Bool} {s : Nat} (h : bsS bs s = true) : s < bs.length := by
  unfold bsS at h
  by_cases hs : s < bs.length
  · exact hs
  · rw [List.getElem?_eq_none (by omega)] at h
    cases h
open Classical in
theorem clo_isCl {es : List Eg} {b e : Bool} {l m : List Bool} (h : Clo es b e l m) (hR : ∀ y ∈ es, 0 ≤ y.t ∧ y.t < l.length) : IsCl es (kmov b e) (bsS l) (bsS m) := by
  have hst : ∀ s, Rch es (kmov b e) (bsS l) s → s < l.length := fun s hs => by
    induction hs with
    | base s hs => exact bsS_lt hs
    | step y h1 _ _ _ => have := hR y h1; omega
  intro s
  constructor
  · intro hs
    obtain ⟨k, hk⟩ : ∃ k : List Bool, k = (List.range l.length).map fun s => decide (Rch es (kmov b e) (bsS l) s) := ⟨_, rfl⟩
    have hat : ∀ s, (k[s]?).getD false = true ↔ Rch es (kmov b e) (bsS l) s := fun s => by
      rw [hk]
      by_cases hs : s < l.length
      · simp [hs]
      · rw [List.getElem?_eq_none (by simp; omega)]
        exact ⟨fun h => absurd h (by simp), fun h => absurd (hst s h) hs⟩
    have h1 : Sub l k := ⟨by rw [hk]; simp, fun i hi => (hat i).2 (.base i hi)⟩
    have h2 : Closed es b e k := fun y hy hm hf => by
      unfold at_ at hf ⊢
      exact (hat _).2 (.step y hy hm ((hat _).1 hf))
    exact (hat s).1 ((h.least k h1 h2).2 s hs)
  · intro hs
    induction hs with
    | base s hs => exact h.sub.2 s hs
    | step y h1 h2 _ ih => exact h.closed y h1 h2 ih
/-- heronref08's walk -/
def RWB (w : World) (B : Nat) (x : Nf) (V : Value) (r : Nat) (f : Bool) : Prop := w.heap[B]? = some (.cells #[.int .i64 x.S, .slice x.ea x.en x.ec, .slice x.ra x.rn x.rc, V, .int .u32 (r : Nat), .bool f] 81 (0, 0))
theorem RWB.cells {w : World} {B : Nat} {x : Nf} {V : Value} {r : Nat} {f : Bool} (h : RWB w B x V r f) : w.cell? ⟨B, 0, none⟩ = some (.int .i64 x.S) ∧ w.cell? ⟨B, 1, none⟩ = some (.slice x.ea x.en x.ec) ∧ w.cell? ⟨B, 2, none⟩ = some (.slice x.ra x.rn x.rc) ∧ w.cell? ⟨B, 3, none⟩ = some V ∧ w.cell? ⟨B, 4, none⟩ = some (.int .u32 (r : Nat)) ∧ w.cell? ⟨B, 5, none⟩ = some (.bool f) := by
  unfold RWB at h
  simp [World.cell?, h]
theorem RWB.lt {w : World} {B : Nat} {x : Nf} {V : Value} {r : Nat} {f : Bool} (h : RWB w B x V r f) : B < w.heap.size := (Array.getElem?_eq_some_iff.1 h).1
theorem RWB.ty {w : World} {B : Nat} {x : Nf} {V : Value} {r : Nat} {f : Bool} (h : RWB w B x V r f) : TyB w 81 B := ⟨_, _, h⟩
theorem RWB.frozen {w : World} {B : Nat} {x : Nf} {V : Value} {r : Nat} {f : Bool} (h : RWB w B x V r f) (i : Nat) : w.frozen? ⟨B, i, none⟩ = false := by
  unfold RWB at h
  simp [World.frozen?, h]
theorem RWB.later {w w' : World} {B : Nat} {x : Nf} {V : Value} {r : Nat} {f : Bool} (h : RWB w B x V r f) (hb : Below w.heap.size w w') : RWB w' B x V r f := (hb.block B h.lt).trans h
theorem RowB.later {w w' : World} {base g n c : Nat} {bs : List Bool} (h : RowB w base (.slice (some ⟨g, 0, none⟩) n c) bs) (hb : Below w.heap.size w w') : RowB w' base (.slice (some ⟨g, 0, none⟩) n c) bs := h.same (hb.block g h.lt.1)
set_option maxRecDepth 8000 in
set_option maxHeartbeats 8000000 in
theorem rwords_any {M : Ma} {x : Nf} {V : Value} {r0 : Nat} {f : Bool} {base : Nat} {g : Oct.S} (B gb n c : Nat) (w : World) (hM : MaAt (fun _ => True) w M x) (hB : RWB w B x V r0 f) (hR : RowB w base (.slice (some ⟨gb, 0, none⟩) n c) (bsOf g n)) (hn : n = M.rs.length) (hn2 : n ≤ 1048576) (h32 : ∀ z ∈ M.rs, z < 4294967296) :
    Calls Tryd.prog 40 #[.pointer (some ⟨B, 0, none⟩), .slice (some ⟨gb, 0, none⟩) n c] w fun e w' => e = .returned (.int .u32 (rulesG M.rs g : Nat)) ∧ w' = w := by
  have HMA : Hid (MaAt (fun _ => True) w M x) := hM
  have HB : Hid (RWB w B x V r0 f) := hB
  have HR : Hid (RowB w base (.slice (some ⟨gb, 0, none⟩) n c) (bsOf g n)) := hR
  have HN : Hid (n = M.rs.length) := hn
  have H32 : Hid (∀ z ∈ M.rs, z < 4294967296) := h32
  clear hM hB hR hn h32
  obtain ⟨xS, xa, en, xc, xra, xrn, xrc⟩ := x
  have e3 : xrn = n := HMA.out.r.trans HN.out.symm
  subst e3
  go_enter Tryd.func40, Tryd.ntmps40
  go_wp2_with fail
  go_loopw [5, 6] (fun r i u => ∃ k : Nat, r = .int .u32 (orL M.rs (Oct.els g k) : Nat) ∧ i = .int .i64 (k : Nat) ∧ k ≤ xrn ∧ u = w) (fun _ i _ => xrn - (intOf i).toNat)
  case atStart => exact ⟨0, rfl, rfl, Nat.zero_le _, rfl⟩
  case round =>
    obtain ⟨k, rfl, rfl, hk, hu⟩ := hrel
    subst hu
    by_cases hlt : k < xrn
    · have hlt' : (k : Int) < (xrn : Int) := by omega
      obtain ⟨c1, _⟩ := HR.out.cell (bsOf_at g hlt)
      obtain ⟨_, _, c2, _, _, _⟩ := HB.out.cells
      simp only at c2
      obtain ⟨y, hy⟩ : ∃ y, M.rs[k]? = some y := ⟨_, List.getElem?_eq_getElem (by rw [← HN.out]; exact hlt)⟩
      obtain ⟨rb, off, rfl, cy⟩ := HMA.out.u.nth hy
      obtain ⟨r, hr⟩ : ∃ r, r = orL M.rs (Oct.els g k) := ⟨_, rfl⟩
      have hrl : r < 4294967296 := by rw [hr]; exact orL_lt H32.out
      have hyl : y < 4294967296 := H32.out y (List.mem_of_getElem? hy)
      have hor : bits .or .u32 (r : Nat) (y : Nat) = ((r ||| y : Nat) : Int) := u32_or_nat r y hrl hyl
      have HST : Hid (orL M.rs (Oct.els g (k + 1)) = if g k then r ||| y else r) := by
        show _ = _
        rw [Oct.els_succ]
        cases g k with
        | true => simp only [if_true]; rw [orL_snoc, hy, ← hr]; rfl
        | false => simp [hr]
      rw [← hr]
      clear hy hr
      cases hg : g k with
      | true =>
        rw [hg] at c1 HST
        simp only [if_true] at HST
        clear hg
        go_wp2_with fail
        go_roundw
        case rel => exact ⟨k + 1, by rw [HST.out], by go_num, by omega, trivial⟩
        case measure => simp [intOf]; omega
      | false =>
        rw [hg] at c1 HST
        have HS2 : Hid (orL M.rs (Oct.els g (k + 1)) = r) := by have h := HST.out; simp at h; exact h
        clear hg HST
        go_wp2_with fail
        go_roundw
        case rel => exact ⟨k + 1, by rw [HS2.out], by go_num, by omega, trivial⟩
        case measure => simp [intOf]; omega
    · have hlt' : ¬ (k : Int) < (xrn : Int) := by omega
      have HE : Hid (orL M.rs (Oct.els g k) = rulesG M.rs g) := by
        show _ = _
        unfold rulesG
        rw [← HN.out, show k = xrn by omega]
      go_wp2
      go_ret
      exact ⟨by rw [HE.out]; rfl, rfl⟩
set_option maxRecDepth 8000 in
set_option maxHeartbeats 8000000 in
theorem rstates_any {x : Nf} {r0 : Nat} {f : Bool} {base : Nat} {g : Oct.S} (B gb n c : Nat) (w : World) (hB : RWB w B x (.slice (some ⟨gb, 0, none⟩) n c) r0 f) (hR : RowB w base (.slice (some ⟨gb, 0, none⟩) n c) (bsOf g n)) (hn2 : n ≤ 1048576) :
    Calls Tryd.prog 41 #[.pointer (some ⟨B, 0, none⟩)] w fun e w' => ∃ V, e = .returned V ∧ RowI w' w.heap.size V (Oct.els g n) ∧ Below w.heap.size w w' := by
  have HB : Hid (RWB w B x (.slice (some ⟨gb, 0, none⟩) n c) r0 f) := hB
  have HR : Hid (RowB w base (.slice (some ⟨gb, 0, none⟩) n c) (bsOf g n)) := hR
  clear hB hR
  go_enter Tryd.func41, Tryd.ntmps41
  go_wp2_with fail
  go_loopw [3, 4] (fun V i u => ∃ k : Nat, i = .int .i64 (k : Nat) ∧ k ≤ n ∧ Hid (Below w.heap.size w u) ∧ Hid (RowI u w.heap.size V (Oct.els g k))) (fun _ i _ => n - (intOf i).toNat)
  case atStart => exact ⟨0, rfl, Nat.zero_le _, Below.refl _ _, rowI_nil _ _⟩
  case round =>
    obtain ⟨k, rfl, hk, HK, HV⟩ := hrel
    obtain ⟨_, _, _, c2, _, _⟩ := (HB.out.later HK.out).cells
    by_cases hlt : k < n
    · have hlt' : (k : Int) < (n : Int) := by omega
      obtain ⟨c1, _⟩ := (HR.out.later HK.out).cell (bsOf_at g hlt)
      have HST : Hid (Oct.els g (k + 1) = Oct.els g k ++ (if g k then [k] else [])) := Oct.els_succ g k
      have HLL : Hid ((Oct.els g k).length ≤ k) := Oct.els_length g k
      cases hg : g k with
      | true =>
        rw [hg] at c1 HST
        simp only [if_true] at HST
        clear hg
        have hhb : w.heap.size ≤ wr.heap.size := HK.out.size
        have kk : Below wr.heap.size wr (wr.alloc (.cells #[.int .i64 (k : Nat)] 3)) := (Below.refl _ _).alloc (Nat.le_refl _) _
        have HKA : Hid (Below w.heap.size w (wr.alloc (.cells #[.int .i64 (k : Nat)] 3))) := HK.out.alloc hhb _
        have HI5 : Hid (RowI (wr.alloc (.cells #[.int .i64 (k : Nat)] 3)) w.heap.size u3 (Oct.els g k)) := HV.out.keep (fun b _ hl _ => kk.block b hl)
        have HC5 : Hid ((wr.alloc (.cells #[.int .i64 (k : Nat)] 3)).cell? ⟨wr.heap.size, 0, none⟩ = some (.int .i64 (k : Nat))) := (Boxed.new wr 3 (.int .i64 (k : Nat))).cell
        have HLQ : Hid ((Oct.els g k).length ≤ 2000000) := by have := HLL.out; show _ ≤ _; omega
        have HZ5 : Hid (w.heap.size ≤ (wr.alloc (.cells #[.int .i64 (k : Nat)] 3)).heap.size) := HKA.out.size
        clear kk
        go_wp2_with (at_builtin; go_must (refine wpList_append_int rfl _ _ rfl w.heap.size _ (Oct.els g k) rfl HI5.out ⟨wr.heap.size, 0, none⟩ 1 k rfl HC5.out HLQ.out HZ5.out ?_; intro ga ca w9 hre9 hg9; have HN9 : Hid (RowI w9 w.heap.size _ (Oct.els g (k + 1))) := (by rw [HST.out]; exact hre9); have HB9 : Hid (Below w.heap.size w w9) := HKA.out.grown hg9 HKA.out.size (fun q e => (HI5.out.ty q e).1); clear hre9 hg9))
        go_roundw
        case rel => exact ⟨k + 1, by go_num, by omega, HB9, HN9⟩
        case measure => simp [intOf]; omega
      | false =>
        rw [hg] at c1 HST
        have HS2 : Hid (Oct.els g (k + 1) = Oct.els g k) := by have h := HST.out; simp at h; exact h
        clear hg HST
        go_wp2_with fail
        go_roundw
        case rel => exact ⟨k + 1, by go_num, by omega, HK, by rw [HS2.out]; exact HV⟩
        case measure => simp [intOf]; omega
    · have hlt' : ¬ (k : Int) < (n : Int) := by omega
      have hkn : k = n := by omega
      subst hkn
      go_wp2
      go_ret
      exact ⟨_, rfl, HV.out, HK.out⟩
end Go.Proofs.YtmjnobdlgbojoaaDoor
