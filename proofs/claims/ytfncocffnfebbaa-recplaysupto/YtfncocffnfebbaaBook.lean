/- The book of what was answered (heronlaw02.Book): its memory, and the contract of its take. -/
import Derived.Test.YtfncocffnfebbaaFit
import Derived.Deep.RegionLaw
namespace Go.Proofs.Ytfncocffnfebbaa
open Go.RowKit
attribute [local go_sem ↓] Go.wp_at_zero Go.wp_at_succ

/-- a list that was answered: n bytes from a place of a block on, and room for no more -/
structure Ans where
  a : Option Addr
  b : Nat
  o : Nat
  n : Nat
def Ans.val (A : Ans) : Value := .slice A.a A.n A.n
theorem info26 : (Try.prog.info? 26).map (fun i => (i.zero, i.size, i.bytes)) = some (some (.slice none 0 0), 1, 24) := by kernel_rfl
theorem info9 : (Try.prog.info? 9).map (fun i => (i.zero, i.size, i.bytes)) = some (some (.string ⟨#[]⟩), 1, 16) := by kernel_rfl

/-- THE BOOK at block K: what was answered, and what it was. -/
def BookAt (u : World) (K B : Nat) (ans : List (Ans × List Int)) : Prop :=
  ∃ ra rc sa sc, u.heap[K]? = some (.cells #[.slice ra ans.length rc, .slice sa ans.length sc] 49 (0, 0)) ∧
    u.ownsRow B 26 1 (.slice ra ans.length rc) ans.length (ans.map fun x => x.1.val) ∧ u.ownsRow B 9 1 (.slice sa ans.length sc) ans.length (ans.map fun x => Value.string (strOfNums x.2))
/-- all blocks stay but the book's own -/
def Keeps (K : Nat) (u u' : World) : Prop := ∀ (b : Nat) (cur : Array Value) (t : TypeId) (fr : Nat × Nat), b ≠ K → t ≠ 26 → t ≠ 9 → u.heap[b]? = some (.cells cur t fr) → u'.heap[b]? = some (.cells cur t fr)
theorem Keeps.trans {K : Nat} {a b c : World} (h : Keeps K a b) (k : Keeps K b c) : Keeps K a c := fun x cur t fr h1 h2 h3 hx => k x cur t fr h1 h2 h3 (h x cur t fr h1 h2 h3 hx)
theorem keeps_below {K : Nat} {w w' : World} (h : Below w.heap.size w w') : Keeps K w w' := fun b cur t fr _ _ _ hb => by
  rw [h.block b (Array.getElem?_eq_some_iff.1 hb).1]; exact hb

/-- a block of another type is not the row's own -/
theorem own_ne {u : World} {B : Nat} {t t' : TypeId} {v : Value} {n : Nat} {xs : List Value} {K : Nat} {c : Array Value} {fr : Nat × Nat} (h : u.ownsRow B t 1 v n xs) (hK : u.heap[K]? = some (.cells c t' fr)) (hne : t' ≠ t) : some K ≠ v.ownBlock := by
  intro e
  rcases h.2 with ⟨rfl, _⟩ | ⟨g1, c1, cur1, rfl, _, hg1, _⟩
  · simp [Value.ownBlock] at e
  · simp only [Value.ownBlock, Option.some.injEq] at e
    subst e
    rw [hK] at hg1
    simp at hg1
    exact hne hg1.2.1
theorem own_base {u : World} {B : Nat} {t : TypeId} {v : Value} {n : Nat} {xs : List Value} (h : u.ownsRow B t 1 v n xs) : ∀ k, v.ownBlock = some k → B ≤ k := by
  intro k hk
  rcases h.2 with ⟨rfl, _⟩ | ⟨g1, c1, cur1, rfl, hB, hg1, _⟩
  · simp [Value.ownBlock] at hk
  · cases hk; exact hB
/-- what is owned stays while one block of another type is written -/
theorem own_kept {u u' : World} {B : Nat} {t t' : TypeId} {v : Value} {n : Nat} {xs : List Value} {K : Nat} {c : Array Value} {fr : Nat × Nat} (h : u.ownsRow B t 1 v n xs) (hK : u.heap[K]? = some (.cells c t' fr)) (hne : t' ≠ t) (hg : u.grownBy u' (some K)) : u'.ownsRow B t 1 v n xs :=
  h.kept hg (by
    by_cases hv : v.ownBlock = none
    · exact Or.inl hv
    · exact Or.inr (fun e => own_ne h hK hne e.symm))

/-- behind the append to a list of the book's (element type t), before its store -/
theorem book_mid {u w1 : World} {K B : Nat} {t : TypeId} {o : Obj} {v : Value} {n : Nat} {xs : List Value} {c : Array Value} (hown : u.ownsRow B t 1 v n xs) (hK : u.heap[K]? = some (.cells c 49 (0, 0))) (hne : 49 ≠ t) (ht : t = 26 ∨ t = 9) (hg : (u.alloc o).grownBy w1 v.ownBlock) :
    w1.heap[K]? = some (.cells c 49 (0, 0)) ∧ Keeps K u w1 := by
  have hal : Below u.heap.size u (u.alloc o) := (Below.refl _ _).alloc (Nat.le_refl _) _
  have hlt : K < u.heap.size := (Array.getElem?_eq_some_iff.1 hK).1
  have key : ∀ (b : Nat) (cur : Array Value) (t' : TypeId) (fr : Nat × Nat), t' ≠ t → u.heap[b]? = some (.cells cur t' fr) → w1.heap[b]? = some (.cells cur t' fr) := fun b cur t' fr hne' hb => by
    have hb' := (Array.getElem?_eq_some_iff.1 hb).1
    rw [hg.block b (Nat.lt_of_lt_of_le hb' hal.size) (own_ne hown hb hne'), hal.block b hb']
    exact hb
  exact ⟨key K c 49 (0, 0) hne hK, fun b cur t' fr _ h26 h9 hb => key b cur t' fr (by rcases ht with rfl | rfl; exact h26; exact h9) hb⟩
theorem keeps_set (K : Nat) (w : World) (j : Nat) (v : Value) : Keeps K w (w.setCell ⟨K, j, none⟩ v) := fun b cur t fr hne _ _ hb => by
  rw [Below.heap_setCell w ⟨K, j, none⟩ v b hne]; exact hb

theorem own_kept2 {u u' : World} {B : Nat} {t t2 : TypeId} {v v2 : Value} {n n2 : Nat} {xs xs2 : List Value} (h : u.ownsRow B t 1 v n xs) (h2 : u.ownsRow B t2 1 v2 n2 xs2) (hne : t ≠ t2) (hg : u.grownBy u' v2.ownBlock) : u'.ownsRow B t 1 v n xs :=
  h.kept hg (by
    rcases h.2 with ⟨rfl, _⟩ | ⟨g1, c1, cur1, rfl, _, hg1, _⟩
    · exact Or.inl rfl
    · exact Or.inr (own_ne h2 hg1 hne))
/-- behind the store of one of the book's two lists -/
theorem book_set {u w1 : World} {K B : Nat} {v0 v1 vn : Value} (hK1 : w1.heap[K]? = some (.cells #[v0, v1] 49 (0, 0))) (hkp : Keeps K u w1) (hbel : Below B u w1) (hBK : B ≤ K) :
    ((w1.setCell ⟨K, 0, none⟩ vn).heap[K]? = some (.cells #[vn, v1] 49 (0, 0)) ∧ Keeps K u (w1.setCell ⟨K, 0, none⟩ vn) ∧ Below B u (w1.setCell ⟨K, 0, none⟩ vn)) ∧
    ((w1.setCell ⟨K, 1, none⟩ vn).heap[K]? = some (.cells #[v0, vn] 49 (0, 0)) ∧ Keeps K u (w1.setCell ⟨K, 1, none⟩ vn) ∧ Below B u (w1.setCell ⟨K, 1, none⟩ vn)) := by
  refine ⟨⟨?_, hkp.trans (keeps_set K w1 0 vn), hbel.setCell (p := ⟨K, 0, none⟩) hBK vn⟩, ⟨?_, hkp.trans (keeps_set K w1 1 vn), hbel.setCell (p := ⟨K, 1, none⟩) hBK vn⟩⟩
  · simp only [World.setCell, Array.getElem?_modify, hK1]
    rfl
  · simp only [World.setCell, Array.getElem?_modify, hK1]
    rfl
theorem own_set {w : World} {K B j : Nat} {t : TypeId} {v vn : Value} {n : Nat} {xs : List Value} {c : Array Value} (h : w.ownsRow B t 1 v n xs) (hK : w.heap[K]? = some (.cells c 49 (0, 0))) (hne : 49 ≠ t) : (w.setCell ⟨K, j, none⟩ vn).ownsRow B t 1 v n xs :=
  own_kept h hK hne (grown_setCell w K j 0 vn)
theorem keeps_bytes {K : Nat} {u u' : World} {a : Option Addr} {zs : List Int} (hk : Keeps K u u') (h : BytesAt u a zs) (hc : zs = [] ∨ ∃ b o cur fr, a = some ⟨b, o, none⟩ ∧ b ≠ K ∧ u.heap[b]? = some (.cells cur 5 fr)) : BytesAt u' a zs := by
  rcases hc with h0 | ⟨b, o, cur, fr, rfl, hne, hb⟩
  · exact Or.inl h0
  · rcases h with h0 | ⟨b', o', e, hcell⟩
    · exact Or.inl h0
    · cases e
      have hb' := hk b cur 5 fr hne (by decide) (by decide) hb
      exact Or.inr ⟨b, o, rfl, fun k hk => by rw [World.cell?_of_block (w := u) (hb'.trans hb.symm)]; exact hcell k hk⟩

set_option maxHeartbeats 2000000 in
set_option maxRecDepth 8000 in
theorem take_book (K B aw_n cw : Nat) (aw : Option Addr) (ans : List (Ans × List Int)) (A : Ans) (zs : List Int) (u : World) (hbook : BookAt u K B ans) (hB : B ≤ K) (hBu : B ≤ u.heap.size) (hm : ans.length ≤ 1000) (hA : BytesAt u A.a zs) (hAn : A.n = zs.length) (hw : BytesAt u aw zs) (hwn : aw_n = zs.length) (hwc : zs = [] ∨ ∃ b o cur fr, aw = some ⟨b, o, none⟩ ∧ b ≠ K ∧ u.heap[b]? = some (.cells cur 5 fr)) (hac : zs = [] ∨ ∃ b o cur fr, A.a = some ⟨b, o, none⟩ ∧ b ≠ K ∧ u.heap[b]? = some (.cells cur 5 fr)) :
    Calls Try.prog 17 #[.pointer (some ⟨K, 0, none⟩), .slice A.a A.n A.n, .slice aw aw_n cw] u fun e u' => e = .returned (.bool true) ∧ BookAt u' K B (ans ++ [(A, zs)]) ∧ Keeps K u u' ∧ Below B u u' := by
  obtain ⟨i26, hi26, hy0, hy1, hy2⟩ := info_parts info26
  obtain ⟨i9, hi9, hz0, hz1, hz2⟩ := info_parts info9
  obtain ⟨ra, rc, sa, sc, hK, hR, hW⟩ := hbook
  obtain ⟨c0, c1, f0, f1⟩ := two_of_block hK
  obtain ⟨m, hmm⟩ : ∃ m, m = ans.length := ⟨_, rfl⟩
  rw [← hmm] at hK hR hW c0 c1 hm
  have HK : Hid (u.heap[K]? = some (.cells #[.slice ra m rc, .slice sa m sc] 49 (0, 0))) := hK
  have HR : Hid (u.ownsRow B 26 1 (.slice ra m rc) m (ans.map fun x => x.1.val)) := hR
  have HW : Hid (u.ownsRow B 9 1 (.slice sa m sc) m (ans.map fun x => Value.string (strOfNums x.2))) := hW
  have HMM : Hid (m = ans.length) := hmm
  have HA : Hid (BytesAt u A.a zs) := hA
  have HWT : Hid (BytesAt u aw zs) := hw
  have HAN : Hid (A.n = zs.length) := hAn
  have HWN : Hid (aw_n = zs.length) := hwn
  have HWC : Hid (zs = [] ∨ ∃ b o cur fr, aw = some ⟨b, o, none⟩ ∧ b ≠ K ∧ u.heap[b]? = some (.cells cur 5 fr)) := hwc
  have HAC : Hid (zs = [] ∨ ∃ b o cur fr, A.a = some ⟨b, o, none⟩ ∧ b ≠ K ∧ u.heap[b]? = some (.cells cur 5 fr)) := hac
  have HBK : Hid (B ≤ K) := hB
  have HBU : Hid (B ≤ u.heap.size) := hBu
  clear hK hR hW hmm hA hw hAn hwn hB hBu hwc hac
  obtain ⟨Aa, Ab, Ao, An⟩ := A
  go_enter Try.func17, Try.ntmps17
  go_wp2_with (at_builtin; go_must (refine wpList_append_lies _ rfl (.tmp 11) (.tmp 13) 46 rfl B 26 i26 _ 1 24 Try.underlying46 hi26 hy0 hy1 hy2 rfl (by omega) (.slice ra m rc) m _ rfl (HR.out.alloc _) ⟨u.heap.size, 0, none⟩ 1 1 [Value.slice Aa An An] rfl rfl (World.news_of_block (cs := #[Value.slice Aa An An]) (t := 26) (fr := (0, 0)) (heap_alloc_new u _)) (fun v hv => by simp at hv; subst hv; rfl) (by omega) (by unfold maxLen; omega) (by omega) (by have := HBU.out; simp; omega) (u.heap.size + 1) (by simp) ?_; intro g1 k1 w1 hown1 hgrow1 hat1 hlt1; obtain ⟨hK1, hkp1⟩ := book_mid HR.out HK.out (by decide) (Or.inl rfl) hgrow1; obtain ⟨d0, d1, e0, e1⟩ := two_of_block hK1; have HK1 : Hid (w1.heap[K]? = some (.cells #[.slice ra m rc, .slice sa m sc] 49 (0, 0))) := hK1; have HKP1 : Hid (Keeps K u w1) := hkp1; have HO1 : Hid (w1.ownsRow B 26 1 (.slice (some ⟨g1, 0, none⟩) (m + 1) k1) (m + 1) ((ans.map fun x => x.1.val) ++ [Value.slice Aa An An])) := hown1; have HG1 : Hid ((u.alloc (.cells #[Value.slice Aa An An] 26)).grownBy w1 (Value.ownBlock (.slice ra m rc))) := hgrow1; clear hown1 hgrow1 hat1 hK1 hkp1))
  have hbl1 : Below B u w1 := ((Below.refl _ _).alloc HBU.out _).grown HG1.out (by have := HBU.out; simp; omega) (own_base HR.out)
  have HW1 : Hid (w1.ownsRow B 9 1 (.slice sa m sc) m (ans.map fun x => Value.string (strOfNums x.2))) := own_kept2 (HW.out.alloc _) (HR.out.alloc _) (by decide) HG1.out
  obtain ⟨⟨q1, q2, q3⟩, _⟩ := book_set (vn := .slice (some ⟨g1, 0, none⟩) (m + 1) k1) HK1.out HKP1.out hbl1 HBK.out
  have HO2 := own_set (j := 0) (vn := .slice (some ⟨g1, 0, none⟩) (m + 1) k1) HO1.out HK1.out (by decide)
  have HW2 := own_set (j := 0) (vn := .slice (some ⟨g1, 0, none⟩) (m + 1) k1) HW1.out HK1.out (by decide)
  obtain ⟨w2, hw2⟩ : ∃ w2, w2 = w1.setCell ⟨K, 0, none⟩ (.slice (some ⟨g1, 0, none⟩) (m + 1) k1) := ⟨_, rfl⟩
  rw [← hw2] at q1 q2 q3 HO2 HW2 ⊢
  have HK2 : Hid (w2.heap[K]? = some (.cells #[.slice (some ⟨g1, 0, none⟩) (m + 1) k1, .slice sa m sc] 49 (0, 0))) := q1
  have HKP2 : Hid (Keeps K u w2) := q2
  have HBL2 : Hid (Below B u w2) := q3
  have HR2 : Hid (w2.ownsRow B 26 1 (.slice (some ⟨g1, 0, none⟩) (m + 1) k1) (m + 1) ((ans.map fun x => x.1.val) ++ [Value.slice Aa An An])) := HO2
  have HV2 : Hid (w2.ownsRow B 9 1 (.slice sa m sc) m (ans.map fun x => Value.string (strOfNums x.2))) := HW2
  obtain ⟨_, y1, _, y2⟩ := two_of_block q1
  have HC : Hid (∀ w', Below w2.heap.size w2 w' → (convert 26 9 (.slice aw aw_n cw)).run Try.prog w' = .ok (.string (strOfNums zs)) w') := fun w' hb => conv_string w' aw aw_n cw zs HWN.out (bytesAt_later hb (keeps_bytes HKP2.out HWT.out HWC.out))
  clear q1 q2 q3 HO2 HW2 hw2 HW1 HO1 HG1 HK1 HKP1 hbl1 d0 d1 e0 e1 c0 c1 f0 f1
  have hcv := HC.out w2 (Below.refl _ _)
  obtain ⟨S, hS⟩ : ∃ S, S = strOfNums zs := ⟨_, rfl⟩
  rw [← hS] at hcv HC
  have HS : Hid (S = strOfNums zs) := hS
  clear hS
  have HKL : Hid (K < w2.heap.size) := (Array.getElem?_eq_some_iff.1 HK2.out).1
  have hz1c : ∀ o : Obj, (w2.alloc o).drew.cell? ⟨K, 1, none⟩ = some (.slice sa m sc) := fun o => (World.cell?_of_block (w := w2) (Below.heap_alloc w2 o K HKL.out)).trans y1
  have hz1f : ∀ o : Obj, (w2.alloc o).drew.frozen? ⟨K, 1, none⟩ = false := fun o => (World.frozen?_of_block (w := w2) (Below.heap_alloc w2 o K HKL.out)).trans y2
  have HZ : Hid (B ≤ w2.heap.size) := Nat.le_trans HBU.out HBL2.out.size
  have hcvd := HC.out w2.drew (Below.refl _ _).drew
  go_region_law
    ((refine step_append_lies _ (by rfl) _ _ _ (by rfl) B 9 i9 _ 1 16 Try.underlying47 hi9 hz0 hz1 hz2 rfl (by omega) (.slice sa m sc) m _ (by rfl) ((HV2.out.alloc _).drew)
        ⟨w2.heap.size, 0, none⟩ 1 1 [Value.string S] (by rfl) (by rfl) (World.news_of_block (cs := #[Value.string S]) (t := 9) (fr := (0, 0)) (heap_alloc_new w2 _)) (fun v hv => by simp at hv; subst hv; rfl)
        (by omega) (by unfold maxLen; omega) (by omega) (by have := HZ.out; simp; omega) (w2.heap.size + 1) (by simp) ?_; intro gg cap w3 hown3 hgrow hat hlt; obtain ⟨hK3, hkp3⟩ := book_mid (w1 := w3) (o := .cells #[Value.string S] 9) HV2.out HK2.out (by decide) (Or.inr rfl) ⟨hgrow.os, hgrow.tape, hgrow.output, hgrow.size, hgrow.block⟩; obtain ⟨_, z1, _, z2⟩ := two_of_block hK3; have HK3 : Hid (w3.heap[K]? = some (.cells #[.slice (some ⟨g1, 0, none⟩) (m + 1) k1, .slice sa m sc] 49 (0, 0))) := hK3; have HKP3 : Hid (Keeps K w2 w3) := hkp3; have HO3 : Hid (w3.ownsRow B 9 1 (.slice (some ⟨gg, 0, none⟩) (m + 1) cap) (m + 1) ((ans.map fun x => Value.string (strOfNums x.2)) ++ [Value.string S])) := hown3; have HG3 : Hid ((w2.alloc (.cells #[Value.string S] 9)).grownBy w3 (Value.ownBlock (.slice sa m sc))) := ⟨hgrow.os, hgrow.tape, hgrow.output, hgrow.size, hgrow.block⟩; clear hK3 hkp3 hown3 hgrow hat))
  all_goals
    have hbl3 : Below B u w3 := (HBL2.out.alloc HZ.out _).grown HG3.out (by have := HZ.out; simp; omega) (own_base HV2.out)
    have hR3 : w3.ownsRow B 26 1 (.slice (some ⟨g1, 0, none⟩) (m + 1) k1) (m + 1) ((ans.map fun x => x.1.val) ++ [Value.slice Aa An An]) := own_kept2 (HR2.out.alloc _) (HV2.out.alloc _) (by decide) HG3.out
    obtain ⟨_, q1, q2, q3⟩ := book_set (vn := .slice (some ⟨gg, 0, none⟩) (m + 1) cap) HK3.out (HKP2.out.trans HKP3.out) hbl3 HBK.out
    have r1 := own_set (j := 1) (vn := .slice (some ⟨gg, 0, none⟩) (m + 1) cap) hR3 HK3.out (by decide)
    have r2 := own_set (j := 1) (vn := .slice (some ⟨gg, 0, none⟩) (m + 1) cap) HO3.out HK3.out (by decide)
    obtain ⟨w4, hw4⟩ : ∃ w4, w4 = w3.setCell ⟨K, 1, none⟩ (.slice (some ⟨gg, 0, none⟩) (m + 1) cap) := ⟨_, rfl⟩
    rw [← hw4] at q1 q2 q3 r1 r2 ⊢
    have HBK4 : Hid (BookAt w4 K B (ans ++ [(⟨Aa, Ab, Ao, An⟩, zs)])) := by
      refine ⟨some ⟨g1, 0, none⟩, k1, some ⟨gg, 0, none⟩, cap, ?_, ?_, ?_⟩
      · rw [List.length_append, ← HMM.out]; exact q1
      · rw [List.length_append, ← HMM.out, List.map_append]; exact r1
      · rw [List.length_append, ← HMM.out, List.map_append]; rw [HS.out] at r2; exact r2
    have HKP4 : Hid (Keeps K u w4) := q2
    have HBL4 : Hid (Below B u w4) := q3
    have HA4 : Hid (BytesAt w4 Aa zs) := keeps_bytes q2 HA.out HAC.out
    have HW4 : Hid (BytesAt w4 aw zs) := keeps_bytes q2 HWT.out HWC.out
    clear q1 q2 q3 r1 r2 hw4 hR3 hbl3 HK3 HKP3 HO3 HG3 z1 z2 y1 y2 hcv hcvd hz1c hz1f HC
    go_wp2_with fail
    refine (same_yes Aa aw An aw_n An cw zs _ HAN.out HWN.out HA4.out HW4.out).mono ?_
    rintro e w5 ⟨rfl, rfl⟩
    go_wp2
    go_ret
    exact ⟨rfl, HBK4.out, HKP4.out, HBL4.out⟩
end Go.Proofs.Ytfncocffnfebbaa
