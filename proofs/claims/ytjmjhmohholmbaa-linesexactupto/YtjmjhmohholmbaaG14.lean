/- heronref16: the document's maker. -/
import Derived.Test.YtjmjhmohholmbaaG13
namespace Go.Proofs.Ytjmjhmohholmbaa
open Go.RowKit Go.Maps Ln
attribute [local go_sem ↓] Go.wp_at_zero Go.wp_at_succ

def RkB (w : World) (B : Nat) (V : Value) (y z : Int) : Prop := w.heap[B]? = some (.cells #[.int .i64 y, V, .int .i64 z] 56 (0, 0))
section
variable {w u v : World} {B : Nat} {V V1 V2 : Value} {y z : Int} {l : List UInt8}
theorem RkB.cells (h : RkB w B V y z) : w.cell? ⟨B, 0, none⟩ = some (.int .i64 y) ∧ w.cell? ⟨B, 1, none⟩ = some V ∧ w.cell? ⟨B, 2, none⟩ = some (.int .i64 z) := by
  simp [World.cell?, show w.heap[B]? = _ from h]
theorem RkB.frozen (h : RkB w B V y z) (j : Nat) : w.frozen? ⟨B, j, none⟩ = false := by simp [World.frozen?, show w.heap[B]? = _ from h]
theorem RkB.ty (h : RkB w B V y z) : TyB w 56 B := ⟨_, _, h⟩
theorem RkB.lt (h : RkB w B V y z) : B < w.heap.size := (Array.getElem?_eq_some_iff.1 h).1
theorem RkB.put1 (h : RkB w B V y z) (V' : Value) : RkB (w.setCell ⟨B, 1, none⟩ V') B V' y z := by unfold RkB; rw [heap_set h]; simp
theorem RkB.put2 (h : RkB w B V y z) (z' : Int) : RkB (w.setCell ⟨B, 2, none⟩ (.int .i64 z')) B V y z' := by unfold RkB; rw [heap_set h]; simp
theorem RkB.xb (h : RkB w B V y z) (ho : OwnB w V l) : ¬ Xb V B := fun e => absurd (TyB.ne (ho.ty e).1 h.ty) (by decide)
theorem rown_set (h : OwnB w V l) (hb : RkB w B V1 y z) (j : Nat) (X : Value) : OwnB (w.setCell ⟨B, j, none⟩ X) V l := h.keep fun b hb2 _ => Below.heap_setCell w ⟨B, j, none⟩ X b (fun e => by
  subst e
  exact absurd (TyB.ne (h.ty hb2).1 hb.ty) (by decide))
end
/-- THE DOCUMENT'S MAKER IN MEMORY -/
structure RkAt (w : World) (B : Nat) (V : Value) (m : Mk) : Prop where
  b : RkB w B V m.most m.long
  o : OwnB w V m.u
def RTo (B : Nat) (V : Value) (m : Mk) (w w' : World) : Prop := ∃ V', RkAt w' B V' m ∧ Here w V V' ∧ FrP (fun k => k = B ∨ V.ownBlock = some k) w w'
theorem rheld_fn {w : World} {B : Nat} {V : Value} {m : Mk} (h : RkAt w B V m) :
    Calls Try.prog 18 #[.pointer (some ⟨B, 0, none⟩)] w fun e w' => e = .returned (.int .i64 (m.held.length : Nat)) ∧ ∃ q, w' = w.drewN q := by
  obtain ⟨hb, ho⟩ := h
  obtain ⟨va, vc, rfl, h1, h2⟩ := ho.form
  obtain ⟨c0, c1, _⟩ := hb.cells
  obtain ⟨n, hn⟩ : ∃ n, m.u.length = n := ⟨_, rfl⟩
  obtain ⟨y, hy⟩ : ∃ y, m.most = y := ⟨_, rfl⟩
  have HH : Hid (m.held.length = if n ≤ y then n else 0) := by
    show _ = _
    unfold Mk.held
    rw [hn, hy]
    split
    · exact hn
    · rfl
  rw [hn] at c1 h1
  rw [hy] at c0
  clear hb ho hn hy
  by_cases hlt : (y : Int) < (n : Int)
  · go_enter Try.func18, Try.ntmps18
    go_wp2_with fail
    go_quiet (fail)
    have HE : Hid (∃ q, w.drewN nq = w.drewN q) := ⟨nq, rfl⟩
    go_wp2
    go_ret
    exact ⟨by rw [HH.out, if_neg (by omega)]; rfl, HE.out⟩
  · go_enter Try.func18, Try.ntmps18
    go_wp2_with fail
    go_quiet (fail)
    have HE : Hid (∃ q, w.drewN nq = w.drewN q) := ⟨nq, rfl⟩
    have c1' : (w.drewN nq).cell? ⟨B, 1, none⟩ = some (.slice va n vc) := c1
    go_wp2
    go_ret
    exact ⟨by rw [HH.out, if_pos (by omega)]; rfl, HE.out⟩
theorem rbegun_fn {w : World} {B : Nat} {V : Value} {m : Mk} (h : RkAt w B V m) :
    Calls Try.prog 19 #[.pointer (some ⟨B, 0, none⟩)] w fun e w' => e = .returned (.int .i64 (m.u.length : Nat)) ∧ w' = w := by
  obtain ⟨hb, ho⟩ := h
  obtain ⟨va, vc, rfl, h1, h2⟩ := ho.form
  obtain ⟨c0, c1, _⟩ := hb.cells
  obtain ⟨n, hn⟩ : ∃ n, m.u.length = n := ⟨_, rfl⟩
  rw [hn] at c1 h1 ⊢
  clear hb ho hn c0
  go_enter Try.func19, Try.ntmps19
  go_wp2
  go_ret
  exact ⟨rfl, rfl⟩
theorem rlong_fn {w : World} {B : Nat} {V : Value} {m : Mk} (h : RkAt w B V m) :
    Calls Try.prog 20 #[.pointer (some ⟨B, 0, none⟩)] w fun e w' => e = .returned (.int .i64 (m.long : Nat)) ∧ w' = w := by
  obtain ⟨_, _, c2⟩ := h.b.cells
  obtain ⟨z, hz⟩ : ∃ z, m.long = z := ⟨_, rfl⟩
  rw [hz] at c2 ⊢
  clear h hz
  go_enter Try.func20, Try.ntmps20
  go_wp2
  go_ret
  exact ⟨rfl, rfl⟩
theorem rdrop_fn {w : World} {B : Nat} {V : Value} {m : Mk} (h : RkAt w B V m) :
    Calls Try.prog 15 #[.pointer (some ⟨B, 0, none⟩)] w fun e w' => e = .returned (.tuple #[]) ∧ RTo B V m.drop w w' := by
  have HE : Hid (RTo B V m.drop w (w.setCell ⟨B, 1, none⟩ (.slice none 0 0))) := ⟨_, ⟨h.b.put1 _, owns_nil _ 0 5⟩, fun b hb => (by cases hb), (FrP.refl _ w).set (fun _ => .inl rfl) 1 _⟩
  obtain ⟨_, c1, _⟩ := h.b.cells
  have q1 := h.b.frozen 1
  clear h
  go_enter Try.func15, Try.ntmps15
  go_wp2
  first | go_end0 | (simp only [Exit.inBlock, Exit.then]; refine bodyPost_ret (results_none rfl _ _ _) rfl ?_) | refine bodyPost_ret (results_none rfl _ _ _) rfl ?_
  exact ⟨rfl, HE.out⟩
theorem frs_laid {lo hi sz : Nat} {act a : Act} (h : FrS lo hi sz act a) (hs : act.tmps.size = sz) (h1 : lo ≤ hi) (h2 : hi ≤ sz) : ∃ l : List Value, l.length = hi - lo ∧ a = ⟨(act.tmps.toList.take lo ++ (l ++ act.tmps.toList.drop hi)).toArray, act.defers⟩ := by
  obtain ⟨e1, e2, e3⟩ := h
  refine ⟨(a.tmps.toList.drop lo).take (hi - lo), by simp [e1]; omega, ?_⟩
  have : a.tmps = (act.tmps.toList.take lo ++ ((a.tmps.toList.drop lo).take (hi - lo) ++ act.tmps.toList.drop hi)).toArray := by
    apply Array.ext_getElem?
    intro j
    show a.tmps[j]? = (act.tmps.toList.take lo ++ ((a.tmps.toList.drop lo).take (hi - lo) ++ act.tmps.toList.drop hi)).toArray[j]?
    rw [show (act.tmps.toList.take lo ++ ((a.tmps.toList.drop lo).take (hi - lo) ++ act.tmps.toList.drop hi)).toArray[j]? = (act.tmps.toList.take lo ++ ((a.tmps.toList.drop lo).take (hi - lo) ++ act.tmps.toList.drop hi))[j]? from List.getElem?_toArray]
    have hlt : act.tmps.toList.length = sz := by simpa using hs
    have hla : a.tmps.toList.length = sz := by simpa using e1
    by_cases c1 : j < lo
    · rw [List.getElem?_append_left (by rw [List.length_take]; omega), List.getElem?_take_of_lt c1, e3 j (.inl c1)]
      simp
    · rw [List.getElem?_append_right (by rw [List.length_take]; omega), List.length_take, show min lo act.tmps.toList.length = lo by omega]
      by_cases c2 : j < hi
      · rw [List.getElem?_append_left (by simp [e1]; omega), List.getElem?_take_of_lt (by omega), List.getElem?_drop, show lo + (j - lo) = j by omega]
        simp
      · rw [List.getElem?_append_right (by simp [e1]; omega), List.getElem?_drop, e3 j (.inr (by omega))]
        simp only [List.length_take, List.length_drop, hla]
        rw [show hi + (j - lo - min (hi - lo) (sz - lo)) = j by omega]
        simp
  obtain ⟨tm, df⟩ := a
  simp only at this e2
  rw [← this, e2]
theorem thirteen {α : Type} {l : List α} (h : l.length = 13) : ∃ a b c d e f g i j k m n o, l = [a, b, c, d, e, f, g, i, j, k, m, n, o] := by
  match l, h with
  | [a, b, c, d, e, f, g, i, j, k, m, n, o], _ => exact ⟨a, b, c, d, e, f, g, i, j, k, m, n, o, rfl⟩
theorem RTo.trans {B : Nat} {V : Value} {m1 m2 : Mk} {w u v : World} (h : RTo B V m1 w u) (h2 : ∀ V1, RkAt u B V1 m1 → RTo B V1 m2 u v) : RTo B V m2 w v := by
  obtain ⟨V1, a1, a2, a3⟩ := h
  obtain ⟨V2, b1, b2, b3⟩ := h2 V1 a1
  refine ⟨V2, b1, fun b hb => ?_, a3.trans b3 (fun k hk hq => ?_)⟩
  · rcases b2 b hb with e | e
    · exact a2 b e
    · exact .inr (Nat.le_trans a3.size e)
  · rcases hq with e | e
    · exact .inl e
    · rcases a2 k e with e2 | e2
      · exact .inr e2
      · omega
/-- what is read of bytes: they lie in no block of the maker's -/
def Apart (w : World) (B : Nat) (V : Value) (ya : Option Addr) (b : List UInt8) : Prop := ∀ k c, b[k]? = some c → ∃ bb off, ya = some ⟨bb, off, none⟩ ∧ w.cell? ⟨bb, off + k, none⟩ = some (.int .u8 (c.toNat : Nat)) ∧ bb ≠ B ∧ V.ownBlock ≠ some bb
set_option maxRecDepth 8000 in
set_option maxHeartbeats 1600000 in
theorem rfeed_fn {w : World} {B : Nat} {V : Value} {ya : Option Addr} {yn yc : Nat} {m : Mk} {b : List UInt8} (h : RkAt w B V m) (hY : Apart w B V ya b) (hyn : b.length = yn) (hm : m.most ≤ 4096) (hl : m.u.length + b.length ≤ 1099511627776) (hg : m.long ≤ 4611686018427387904) :
    Calls Try.prog 17 #[.pointer (some ⟨B, 0, none⟩), .slice ya yn yc] w fun e w' => e = .returned (.tuple #[.string ⟨(m.text b).toArray⟩, .int .i64 (took b : Nat), .bool (m.whole b)]) ∧ RTo B V (m.feed b) w w' := by
  have HAll : Hid (RkAt w B V m ∧ Apart w B V ya b ∧ m.most ≤ 4096 ∧ m.u.length + b.length ≤ 1099511627776 ∧ m.long ≤ 4611686018427387904) := ⟨h, hY, hm, hl, hg⟩
  have HN : Hid (b.length = yn) := hyn
  have hyn2 : yn ≤ 1099511627776 := by omega
  have H0 : Hid (RTo B V (m.goOn (b.take 0)) w w) := ⟨V, by show RkAt w B V ⟨m.u ++ b.take 0, m.most, m.long⟩; rw [List.take_zero, List.append_nil]; exact h, fun _ hb => .inl hb, FrP.refl _ w⟩
  clear h hY hm hl hg hyn
  go_enter Try.func17, Try.ntmps17
  go_wp2
  go_loopw [7] (fun i w' => ∃ k : Nat, k ≤ yn ∧ i = .int .i64 (k : Nat) ∧ Hid ((∀ j, j < k → ∃ c, b[j]? = some c ∧ c ≠ 10) ∧ RTo B V (m.goOn (b.take k)) w w')) (fun i _ => yn - (intOf i).toNat)
  case atStart => exact ⟨0, Nat.zero_le _, rfl, fun j hj => by omega, H0.out⟩
  case round =>
    obtain ⟨k, hk, rfl, hno⟩ := hrel
    by_cases hlt : k < yn
    · obtain ⟨c, hc⟩ : ∃ c, b[k]? = some c := ⟨_, List.getElem?_eq_getElem (by rw [HN.out]; exact hlt)⟩
      obtain ⟨bb, off, rfl, hcell, hbB, hbV⟩ := HAll.out.2.1 k c hc
      obtain ⟨V1, hR1, hh1, hf1⟩ := hno.out.2
      have hnq : ¬ (bb = B ∨ V.ownBlock = some bb) := fun e => e.elim hbB hbV
      have hcw := cell_frp hf1 hnq hcell
      have hbl : bb < w.heap.size := World.block_lt_of_cell? w _ hcell
      have hV1 : ¬ Xb V1 bb := fun e => by
        rcases hh1 bb e with e2 | e2
        · exact hbV e2
        · omega
      have HC : Hid (b[k]? = some c) := hc
      have HR1 : Hid (RkAt wr B V1 (m.goOn (b.take k))) := hR1
      have HLK : Hid ((m.goOn (b.take k)).u.length ≤ 1099511627776) := by
        show (m.u ++ b.take k).length ≤ _
        have := HAll.out.2.2.2.1
        rw [List.length_append, List.length_take]; omega
      by_cases e : c = 10
      · subst e
        have hcw : wr.cell? ⟨bb, off + k, none⟩ = some (.int .u8 10) := hcw
        have HNL : Hid (nl b = k) := nl_first HC.out hno.out.1
        have HV : Hid (m.text b = (m.goOn (b.take k)).held ∧ took b = k + 1 ∧ m.whole b = decide ((m.goOn (b.take k)).u.length ≤ (m.goOn (b.take k)).most) ∧ m.feed b = (m.goOn (b.take k)).ended) := by
          have hlt' : k < b.length := by rw [HN.out]; exact hlt
          refine ⟨?_, ?_, ?_, ?_⟩
          · unfold Mk.text; rw [HNL.out, if_pos hlt']
          · unfold took; rw [HNL.out, if_pos hlt']
          · unfold Mk.whole; rw [HNL.out]; simp only [hlt', decide_true, Bool.true_and]; show _ = decide ((m.u ++ b.take k).length ≤ m.most); rw [List.length_append, List.length_take, Nat.min_eq_left (by omega)]
          · unfold Mk.feed; rw [HNL.out, if_pos hlt']
        obtain ⟨m2, hm2⟩ : ∃ m2, m.goOn (b.take k) = m2 := ⟨_, rfl⟩
        rw [hm2] at HV HR1 HLK
        have hcv := conv_uv (owns_lat HR1.out.o)
        obtain ⟨c0, c1, c2⟩ := HR1.out.b.cells
        have q1 := HR1.out.b.frozen 1
        have hms : m2.most = m.most ∧ m2.long = m.long := by rw [← hm2]; exact ⟨rfl, rfl⟩
        have HT : Hid (∀ u, RTo B V1 m2.ended wr u → RTo B V (m.feed b) w u) := by
          intro u hu
          rw [HV.out.2.2.2]
          refine RTo.trans (m1 := m2) ⟨V1, HR1.out, hh1, hf1⟩ fun V3 h3 => ?_
          have e0 : V3 = V1 := by
            have x1 := h3.b.cells.2.1
            rw [c1] at x1
            exact (Option.some.inj x1).symm
          subst e0
          exact hu
        have hB1 : RkB (wr.setCell ⟨B, 1, none⟩ (.slice none 0 0)) B (.slice none 0 0) m2.most m2.long := HR1.out.b.put1 _
        have q2' := hB1.frozen 2
        obtain ⟨d0, _, d2⟩ := hB1.cells
        obtain ⟨n, hn⟩ : ∃ n, m2.u.length = n := ⟨_, rfl⟩
        obtain ⟨y, hy⟩ : ∃ y, m2.most = y := ⟨_, rfl⟩
        obtain ⟨z, hz⟩ : ∃ z, m2.long = z := ⟨_, rfl⟩
        have hzb : z ≤ 4611686018427387904 := by rw [← hz, hms.2]; exact HAll.out.2.2.2.2
        have hsz : (⟨m2.u.toArray⟩ : ByteArray).size = n := by rw [← hn]; rfl
        have HNY : Hid (m2.u.length = n ∧ m2.most = y ∧ m2.long = z) := ⟨hn, hy, hz⟩
        have hnb : n ≤ 1099511627776 := by have := HLK.out; omega
        rw [hy, hz] at hB1
        rw [hy] at c0 d0
        rw [hz] at c2 d2
        rw [hy] at HV
        have HB1 : Hid (RkB (wr.setCell ⟨B, 1, none⟩ (.slice none 0 0)) B (.slice none 0 0) y z) := hB1
        clear hR1 hh1 hf1 hno hm2 hms hB1 hn hy hz hcell hbV hV1 hnq HNL
        by_cases hty : (y : Int) < (n : Int)
        · have HE : Hid (RTo B V (m.feed b) w ((wr.setCell ⟨B, 1, none⟩ (.slice none 0 0)).setCell ⟨B, 2, none⟩ (.int .i64 ((z : Int) + 1)))) := HT.out _ (by
            have e0 : m2.ended = ⟨[], m2.most, m2.long + 1⟩ := Mk.ended_no (by rw [HNY.out.1, HNY.out.2.1]; omega)
            rw [e0]
            refine ⟨.slice none 0 0, ⟨?_, owns_nil _ 0 5⟩, fun b hb => (by cases hb), ((FrP.refl _ wr).set (fun _ => .inl rfl) 1 _).set (fun _ => .inl rfl) 2 _⟩
            have := HB1.out.put2 ((z : Int) + 1)
            show RkB _ B _ (m2.most : Nat) ((m2.long + 1 : Nat) : Int)
            rw [HNY.out.2.1, HNY.out.2.2]
            exact this)
          have HVV : Hid (m.text b = [] ∧ took b = k + 1 ∧ m.whole b = false) := ⟨by rw [HV.out.1]; exact Mk.held_no (by rw [HNY.out.1, HNY.out.2.1]; omega), HV.out.2.1, by rw [HV.out.2.2.1]; exact decide_eq_false (by rw [HNY.out.1]; omega)⟩
          clear HT HV
          go_wp2
          refine bodyPost_ret (v := .tuple #[.string ⟨#[]⟩, .int .i64 ((k : Int) + 1), .bool false]) (by simp [results, Try.results17, go_sem]) rfl ⟨?_, HE.out⟩
          rw [HVV.out.1, HVV.out.2.1, HVV.out.2.2]
          rfl
        · have HE : Hid (RTo B V (m.feed b) w (wr.setCell ⟨B, 1, none⟩ (.slice none 0 0))) := HT.out _ (by
            have e0 : m2.ended = ⟨[], m2.most, m2.long⟩ := Mk.ended_yes (by rw [HNY.out.1, HNY.out.2.1]; omega)
            rw [e0]
            refine ⟨.slice none 0 0, ⟨?_, owns_nil _ 0 5⟩, fun b hb => (by cases hb), (FrP.refl _ wr).set (fun _ => .inl rfl) 1 _⟩
            show RkB _ B _ (m2.most : Nat) (m2.long : Nat)
            rw [HNY.out.2.1, HNY.out.2.2]
            exact HB1.out)
          have HVV : Hid (m.text b = m2.u ∧ took b = k + 1 ∧ m.whole b = true) := ⟨by rw [HV.out.1]; exact Mk.held_yes (by rw [HNY.out.1, HNY.out.2.1]; omega), HV.out.2.1, by rw [HV.out.2.2.1]; exact decide_eq_true (by rw [HNY.out.1]; omega)⟩
          clear HT HV
          go_wp2
          refine bodyPost_ret (v := .tuple #[.string ⟨m2.u.toArray⟩, .int .i64 ((k : Int) + 1), .bool true]) (by simp [results, Try.results17, go_sem]) rfl ⟨?_, HE.out⟩
          rw [HVV.out.1, HVV.out.2.1, HVV.out.2.2]
          rfl
      · have hne : ¬ (c.toNat : Int) = 10 := u8_ten e
        have HNE : Hid (c ≠ 10) := e
        have HK : Hid (∀ w' V', FrP (Xb V1) wr w' → OwnB w' V' ((m.goOn (b.take k)).u ++ [c]) → (∀ x, V'.ownBlock = some x → V1.ownBlock = some x ∨ wr.heap.size ≤ x) → RTo B V (m.goOn (b.take (k + 1))) w (w'.setCell ⟨B, 1, none⟩ V')) := by
          intro w' V' hf ho hh
          have e0 : m.goOn (b.take (k + 1)) = ⟨(m.goOn (b.take k)).u ++ [c], m.most, m.long⟩ := by
            show (⟨m.u ++ b.take (k + 1), m.most, m.long⟩ : Mk) = ⟨(m.u ++ b.take k) ++ [c], m.most, m.long⟩
            rw [List.take_add_one, HC.out, List.append_assoc]
            rfl
          rw [e0]
          refine RTo.trans hno.out.2 fun V3 h3 => ?_
          have e0 : V3 = V1 := by
            have x1 := h3.b.cells.2.1
            rw [HR1.out.b.cells.2.1] at x1
            exact (Option.some.inj x1).symm
          subst e0
          have hB' : RkB w' B V3 m.most m.long := (hf.block B h3.b.lt (h3.b.xb h3.o)).trans h3.b
          exact ⟨V', ⟨hB'.put1 V', rown_set ho hB' 1 V'⟩, hh, (hf.mono fun _ _ h => .inr h).set (fun _ => .inl rfl) 1 _⟩
        have c1 := HR1.out.b.cells.2.1
        clear e hR1 hh1 hf1 hcell hbV hnq hc
        go_wp2_with fail
        refine regFd B bb off yn yc k V1 (m.goOn (b.take k)).u c (by kernel_rfl) rfl rfl rfl rfl c1 (HR1.out.b.xb HR1.out.o) HR1.out.o hlt (fun w' hf => cell_frp hf hV1 hcw) (fun w' hf => by
          have hB' : RkB w' B V1 m.most m.long := (hf.block B HR1.out.b.lt (HR1.out.b.xb HR1.out.o)).trans HR1.out.b
          exact hB'.frozen 1) HLK.out ?_
        intro a' w' V' hfa hf ho hh
        obtain ⟨l, hl, rfl⟩ := frs_laid hfa rfl (by decide) (by decide)
        obtain ⟨x1, x2, x3, x4, x5, x6, x7, x8, x9, x10, x11, x12, x13, rfl⟩ := thirteen hl
        have HR2 : Hid (RTo B V (m.goOn (b.take (k + 1))) w (w'.setCell ⟨B, 1, none⟩ V')) := HK.out w' V' hf ho hh
        clear hfa hf ho hh hl HK hV1 hcw c1
        simp only [List.take_succ_cons, List.drop_succ_cons, List.take_zero, List.drop_zero, List.cons_append, List.nil_append]
        go_wp2
        go_roundw
        case rel => exact ⟨k + 1, by omega, by go_num, fun j hj => by
          rcases Nat.lt_or_ge j k with h1 | h1
          · exact hno.out.1 j h1
          · obtain rfl : j = k := by omega
            exact ⟨c, HC.out, HNE.out⟩, HR2.out⟩
        case measure => simp [intOf]; omega
    · obtain rfl : k = yn := by omega
      have HNL : Hid (nl b = b.length) := nl_none (fun j hj => hno.out.1 j (by have := HN.out; omega))
      have HV : Hid (m.text b = [] ∧ took b = k ∧ m.whole b = false ∧ m.feed b = m.goOn (b.take k)) := by
        have hx : ¬ nl b < b.length := by rw [HNL.out]; omega
        refine ⟨?_, ?_, ?_, ?_⟩
        · unfold Mk.text; rw [if_neg hx]
        · unfold took; rw [if_neg hx, HN.out]
        · unfold Mk.whole; rw [decide_eq_false hx]; rfl
        · unfold Mk.feed; rw [if_neg hx, ← HN.out, List.take_length]
      have HF : Hid (RTo B V (m.feed b) w wr) := by show RTo B V (m.feed b) w wr; rw [HV.out.2.2.2]; exact hno.out.2
      clear hno
      go_wp2
      refine bodyPost_ret (v := .tuple #[.string ⟨#[]⟩, .int .i64 (k : Nat), .bool false]) (by simp [results, Try.results17, go_sem]) rfl ⟨?_, HF.out⟩
      rw [HV.out.1, HV.out.2.1, HV.out.2.2.1]
end Go.Proofs.Ytjmjhmohholmbaa
