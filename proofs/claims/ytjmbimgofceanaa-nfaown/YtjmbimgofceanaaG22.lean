/- NfaOwn: lists of lists. -/
import Derived.Test.YtjmbimgofceanaaG21
import Derived.Test.YtjmbimgofceanaaG19
import Derived.Test.YtjmbimgofceanaaG20
namespace Go.Proofs.Ytjmbimgofceanaa
open Go.RowKit

def RowV (T : TypeId) (w : World) (base : Nat) (V : Value) (vs : List Value) : Prop := w.ownsRow base T 1 V vs.length vs
section
variable {T : TypeId} {w w' : World} {base : Nat} {V : Value} {vs : List Value}
theorem rowV_nil (T : TypeId) (w : World) (base : Nat) : RowV T w base (.slice none 0 0) [] := World.ownsRow_nil w base T 1
theorem RowV.ty (h : RowV T w base V vs) : ∀ b, V.ownBlock = some b → base ≤ b ∧ TyB w T b := by
  rcases h.2 with ⟨rfl, _⟩ | ⟨g, cap, cur, rfl, hB, hg, _⟩
  · intro b hb; cases hb
  · intro b hb; cases hb; exact ⟨hB, _, _, hg⟩
theorem RowV.keep (h : RowV T w base V vs) (hk : ∀ b, b < w.heap.size → TyB w T b → w'.heap[b]? = w.heap[b]?) : RowV T w' base V vs := by
  refine ⟨h.1, ?_⟩
  rcases h.2 with h6 | ⟨g, cap, cur, hv, hB, hg, rest⟩
  · exact Or.inl h6
  · exact Or.inr ⟨g, cap, cur, hv, hB, (hk g (Array.getElem?_eq_some_iff.1 hg).1 ⟨_, _, hg⟩).trans hg, rest⟩
theorem RowV.later (h : RowV T w base V vs) (hb : Below w.heap.size w w') : RowV T w' base V vs := h.keep (fun b hlt _ => hb.block b hlt)
theorem RowV.grown (h : RowV T w base V vs) {r : Option Nat} (hg : w.grownBy w' r) {S : TypeId} (hr : ∀ k, r = some k → TyB w S k) (hS : S ≠ T) : RowV T w' base V vs :=
  h.keep (fun b hlt hb => hg.block b hlt (fun e => hS (TyB.ne (hr b e.symm) hb)))
theorem RowV.form (h : RowV T w base V vs) : ∃ a c, V = .slice a vs.length c := by
  rcases h.2 with ⟨rfl, h0⟩ | ⟨g, cap, cur, rfl, _⟩
  · exact ⟨none, 0, by rw [h0]⟩
  · exact ⟨_, _, rfl⟩
theorem RowV.nth (h : RowV T w base V vs) {i : Nat} {v : Value} (hi : vs[i]? = some v) : ∃ g c, V = .slice (some ⟨g, 0, none⟩) vs.length c ∧ w.cell? ⟨g, i, none⟩ = some v := by
  have hl := (List.getElem?_eq_some_iff.1 hi).1
  rcases h.2 with ⟨rfl, h0⟩ | ⟨g, cap, cur, rfl, _, hg, h1, h2, h3, h4⟩
  · omega
  · refine ⟨g, cap, rfl, ?_⟩
    rw [← h4, List.getElem?_take_of_lt (by omega), Array.getElem?_toList] at hi
    simp [World.cell?, hg, hi]
end
theorem infoLE : (Try.prog.info? 35).map (fun i => (i.zero, i.size, i.bytes)) = some (some (.slice none 0 0), 1, 24) := by kernel_rfl
theorem infoLU : (Try.prog.info? 36).map (fun i => (i.zero, i.size, i.bytes)) = some (some (.slice none 0 0), 1, 24) := by kernel_rfl
theorem run_append_rowV (t T ty : TypeId) (hu : Try.prog.underlying t = some (.slice T)) (hinf : (Try.prog.info? T).map (fun i => (i.zero, i.size, i.bytes)) = some (some (.slice none 0 0), 1, 24)) (w : World) (base : Nat) (V : Value) (vs : List Value) (h : RowV T w base V vs) (hb : base ≤ w.heap.size) (hl : vs.length ≤ 100) (ad : Addr) (k : Nat) (a : Option Addr) (n c : Nat) (hc : w.cell? ad = some (.slice a n c)) :
    ∃ V' w', (Builtin.append_ #[t, t] ty #[V, .slice (some ad) 1 k]).run Try.prog w = .ok V' w' ∧ RowV T w' base V' (vs ++ [.slice a n c]) ∧ w.grownBy w' V.ownBlock := by
  obtain ⟨i0, hi, hz0, hz1, hz2⟩ := info_parts hinf
  obtain ⟨g, cap', w', hr, ho2, hg, hgg, hlt⟩ := run_append_lies (P := Try.prog) w t ty base T i0 _ 1 24 hu hi hz0 hz1 hz2 rfl (by decide) V vs.length vs h ad 1 k [.slice a n c] rfl
    (fun j v hj => by
      cases j with
      | zero => simp at hj; subst hj; simpa [Addr.add] using hc
      | succ j => simp at hj) (fun v hv => by simp at hv; subst hv; rfl) (by decide) (by simp only [maxLen]; omega) (by omega) hb w.heap.size rfl
  refine ⟨_, w', hr, ?_, hg⟩
  unfold RowV
  rw [List.length_append]
  exact ho2
theorem wpList_append_rowV {w : World} {ops : Array Oper} {rest : List Oper} {o : Oper} {a : Act} {Q : Exit → Act → World → Prop} (hgd : o.guard = none) (s y : Operand) (t T : TypeId)
    (ho : o.op = .call { callee := .builtin .append, args := #[s, y], argTypes := #[t, t] }) (hu : Try.prog.underlying t = some (.slice T)) (hinf : (Try.prog.info? T).map (fun i => (i.zero, i.size, i.bytes)) = some (some (.slice none 0 0), 1, 24)) (base : Nat) (V : Value) (vs : List Value) (h : RowV T w base V vs) (hb : base ≤ w.heap.size) (hl : vs.length ≤ 100) (hs : a.eval s = V) (ad : Addr) (k : Nat) (b : Option Addr) (n c : Nat) (hy : a.eval y = .slice (some ad) 1 k) (hc : w.cell? ad = some (.slice b n c))
    (hk : ∀ V' w', RowV T w' base V' (vs ++ [.slice b n c]) → w.grownBy w' V.ownBlock → wpList Try.prog ops Q rest (a.put o.dst V') w') : wpList Try.prog ops Q (o :: rest) a w := by
  refine wpList_plain hgd fun K hK => ?_
  obtain ⟨V', w', hr, h2, h3⟩ := run_append_rowV t T o.type hu hinf w base V vs h hb hl ad k b n c hc
  unfold Oper.wp execOp
  simp only [ho, resolve, invoke, builtin, Sem.run_bind, Sem.run_pure, Result.andThen_ok, List.map_toArray, List.map_cons, List.map_nil, hs, hy, hr]
  exact hK _ _ (hk V' w' h2 h3)
theorem Sf.grownV {K : Kc} {u u' : World} {F G : Nat → Nat → Value → Prop} (h : Sf K u F G) {r : Option Nat} (hg : u.grownBy u' r) (hr : ∀ k, r = some k → K.N0 ≤ k ∧ ∃ S, TyB u S k ∧ S ≠ 38 ∧ S ≠ 57 ∧ S ≠ 44) : Sf K u' F G :=
  ⟨h.st.own hg (fun k e => by obtain ⟨h1, S, h2, h3, _, _⟩ := hr k e; exact ⟨K.hD1 k h1, S, h2, h3⟩), h.fe.other hg (fun k e => by obtain ⟨_, S, h2, _, h3, _⟩ := hr k e; exact ⟨S, h2, h3⟩), h.fu.other hg (fun k e => by obtain ⟨_, S, h2, _, _, h3⟩ := hr k e; exact ⟨S, h2, h3⟩)⟩
end Go.Proofs.Ytjmbimgofceanaa

/- The program's join. -/
namespace Go.Proofs.Ytjmbimgofceanaa
open Go.RowKit
attribute [local go_sem ↓] Go.wp_at_zero Go.wp_at_succ

set_option maxRecDepth 4000 in
set_option maxHeartbeats 4000000 in
theorem bjoin_any (B b0 Y base : Nat) (m : Mk) (l : List Nat) (oa : Option Addr) (n oc : Nat) (w : World) (hn : l.length = n) (h : BB w b0 B Y m) (hb : b0 ≤ w.heap.size) (hI : RowI w base (.slice oa n oc) l) (hS : (joint (m, l)).1.S ≤ 1000000) (hE : (joint (m, l)).1.es.length ≤ 1000000) : Calls Try.prog 70 #[.pointer (some ⟨B, 0, none⟩), .slice oa n oc] w fun e w' => e = .returned (.int .i64 ((joint (m, l)).2 : Nat)) ∧ BB w' b0 B Y (joint (m, l)).1 ∧ Fm b0 B w w' := by
  obtain ⟨z1, z2⟩ := joint_size (m, l)
  simp only at z1 z2
  have hS1 : m.S + 1 ≤ 1000000 := by omega
  have hn6 : n ≤ 1000000 := by omega
  obtain ⟨R, hR⟩ : ∃ R, (joint (m, l)).1 = R := ⟨_, rfl⟩
  have HR : Hid (frees l m.S m.st = R) := by rw [← hR]; rfl
  have HJ : Hid ((joint (m, l)).2 = m.S) := rfl
  have HE : Hid (R.es.length ≤ 1000000) := by rw [← hR]; exact hE
  have HJ1 : Hid ((joint (m, l)).1 = R) := hR
  rw [hR, HJ.out]
  have HB : Hid (BB w b0 B Y m) := h
  have HI : Hid (RowI w base (.slice oa n oc) l) := hI
  have HZ : Hid (b0 ≤ w.heap.size) := hb
  have HN : Hid (l.length = n) := hn
  clear z1 z2 hR h hI hb hS hE hn
  go_enter Try.func70, Try.ntmps70
  go_wp2_with fail
  refine (bstate_any B b0 Y m w HB.out (by omega)).mono ?_
  rintro e w1 ⟨rfl, h1, f1⟩
  have HB1 : Hid (BB w1 b0 B Y m.st) := h1
  have HF1 : Hid (Fm b0 B w w1) := f1
  have HI1 : Hid (RowI w1 base (.slice oa n oc) l) := HI.out.fmb HB.out f1
  have HZ1 : Hid (b0 ≤ w1.heap.size) := Nat.le_trans HZ.out f1.size
  clear h1 f1 HB HI HZ
  go_wp2_with fail
  go_loopw [12] (fun i u => ∃ (j : Nat) (m3 : Mk), i = .int .i64 (j : Nat) ∧ j ≤ n ∧ Hid (frees (l.drop j) m.S m3 = R) ∧ Hid (RowI u base (.slice oa n oc) l) ∧ Hid (BB u b0 B Y m3) ∧ Hid (Fm b0 B w u) ∧ Hid (b0 ≤ u.heap.size)) (fun i _ => n - (intOf i).toNat)
  case atStart => exact ⟨0, m.st, rfl, Nat.zero_le _, HR, HI1, HB1, HF1, HZ1⟩
  case round =>
    clear HR HI1 HB1 HF1 HZ1
    obtain ⟨j, m3, rfl, hj, HRj, HIj, HBj, HFj, HZj⟩ := hrel
    by_cases hlt : j < n
    · have hlt' : (j : Int) < (n : Int) := by omega
      obtain ⟨x, hx⟩ : ∃ x, l[j]? = some x := ⟨_, List.getElem?_eq_getElem (by rw [HN.out]; exact hlt)⟩
      obtain ⟨g, hg, hc⟩ := HIj.out.at hx
      subst hg
      have HR4 : Hid (frees (l.drop (j + 1)) m.S (m3.fr x m.S) = R) := (frees_step hx m.S m3).symm.trans HRj.out
      have hge : m3.es.length + 1 ≤ 1000000 := by
        have h1 := (frees_le (l.drop (j + 1)) m.S (m3.fr x m.S)).2
        rw [HR4.out] at h1
        have h2 := Nat.le_trans h1 HE.out
        simpa [Mk.fr, Mk.ed] using h2
      clear hx
      go_wp2_with fail
      refine (bfree_any B b0 Y m3 x m.S wr HBj.out HZj.out (by omega)).mono ?_
      rintro e w4 ⟨rfl, h4, f4⟩
      have HB4 : Hid (BB w4 b0 B Y (m3.fr x m.S)) := h4
      have HF4 : Hid (Fm b0 B w w4) := HFj.out.trans f4
      have HI4 : Hid (RowI w4 base (.slice (some ⟨g, 0, none⟩) n oc) l) := HIj.out.fmb HBj.out f4
      have HZ4 : Hid (b0 ≤ w4.heap.size) := Nat.le_trans HZj.out f4.size
      clear h4 f4 HBj HFj HIj HZj hc
      go_wp2
      go_roundw
      case rel => exact ⟨j + 1, m3.fr x m.S, by go_num, by omega, HR4, HI4, HB4, HF4, HZ4⟩
      case measure => simp [intOf]; omega
    · have hlt' : ¬ (j : Int) < (n : Int) := by omega
      have HEq : Hid (R = m3) := by
        show _ = _
        rw [← HRj.out, List.drop_of_length_le (by rw [HN.out]; omega), frees]
      clear HRj
      go_wp2
      go_ret
      rw [HEq.out]
      exact ⟨rfl, HBj.out, HFj.out⟩
end Go.Proofs.Ytjmbimgofceanaa

/- The program's way of alternatives. -/
namespace Go.Proofs.Ytjmbimgofceanaa
open Go.RowKit
attribute [local go_sem ↓] Go.wp_at_zero Go.wp_at_succ

theorem alts_next {ts : List Tn} {i : Nat} {t : Tn} (h : ts[i]? = some t) (m : Mk) (a : Nat) (l : List Nat) : alts (ts.drop i) m a l = alts (ts.drop (i + 1)) (lay t (m.st.fr a m.S) m.S).1 a (l ++ [(lay t (m.st.fr a m.S) m.S).2]) := by
  have hlt := (List.getElem?_eq_some_iff.1 h).1
  rw [List.drop_eq_getElem_cons hlt, (List.getElem?_eq_some_iff.1 h).2, alts]
set_option maxRecDepth 20000 in
set_option maxHeartbeats 16000000 in
theorem way_alt {w0 : World} {B : Nat} {s : Oct.S} {subs : List Tn} {mn mx : Int} {a : Option Addr} {n c : Nat} {vs : List Nd} (hn : n = subs.length) (hl : vs.length = n) (hm : n ≤ 1000000) (hr : RowAt (fun b => b ≠ B) w0 a vs) (hs : ∀ (i : Nat) (t : Tn) (v : Nd), subs[i]? = some t → vs[i]? = some v → LayV w0 B t v) : WayV 48 w0 B (.mk 4 s subs mn mx) ⟨4, s, a, n, c, mn, mx⟩ := by
  intro w b0 Y m a0 hlow h0 hb hbb hS hE
  obtain ⟨R, hR⟩ : ∃ R, lay (.mk 4 s subs mn mx) m a0 = R := ⟨_, rfl⟩
  rw [hR] at hS hE ⊢
  have HR : Hid (joint (alts subs m a0 []) = R) := by show _ = _; rw [← hR, lay_mk]; simp
  have HIH : Hid (∀ (i : Nat) (t : Tn) (v : Nd), subs[i]? = some t → vs[i]? = some v → LayV w0 B t v) := hs
  have HRO : Hid (RowAt (fun b => b ≠ B) w0 a vs) := hr
  have HN : Hid (n = subs.length) := hn
  have HL : Hid (vs.length = n) := hl
  have HBS : Hid (R.1.S ≤ 1000000 ∧ R.1.es.length ≤ 1000000) := ⟨hS, hE⟩
  have HM0 : Hid (n ≤ 1000000) := hm
  clear hs hr hn hl hS hE hR
  have HSB : Hid (Sb w0 b0 B Y w.heap.size ⟨4, s, a, n, c, mn, mx⟩ w (w.alloc (.cells #[.int .i64 4, .int .u64 (Oct.word s 0 : Nat), .int .u64 (Oct.word s 1 : Nat), .int .u64 (Oct.word s 2 : Nat), .int .u64 (Oct.word s 3 : Nat), .slice a n c, .int .i64 mn, .int .i64 mx] 30)) m) := sb_start w0 ⟨4, s, a, n, c, mn, mx⟩ hbb hlow hb h0
  obtain ⟨w1, hw1⟩ : ∃ w1, w.alloc (.cells #[.int .i64 4, .int .u64 (Oct.word s 0 : Nat), .int .u64 (Oct.word s 1 : Nat), .int .u64 (Oct.word s 2 : Nat), .int .u64 (Oct.word s 3 : Nat), .slice a n c, .int .i64 mn, .int .i64 mx] 30) = w1 := ⟨_, rfl⟩
  rw [hw1] at HSB
  obtain ⟨A, hA⟩ : ∃ A, w.heap.size = A := ⟨_, rfl⟩
  rw [hA] at HSB
  have HW1 : Hid (w.alloc (.cells #[.int .i64 4, .int .u64 (Oct.word s 0 : Nat), .int .u64 (Oct.word s 1 : Nat), .int .u64 (Oct.word s 2 : Nat), .int .u64 (Oct.word s 3 : Nat), .slice a n c, .int .i64 mn, .int .i64 mx] 30) = w1) := hw1
  have HAA : Hid (w.heap.size = A) := hA
  have HB : Hid (b0 ≤ w.heap.size) := hb
  have H0 : Hid (w0.heap.size ≤ b0) := h0
  clear hw1 hA hb h0 hlow hbb
  obtain ⟨y0, y1, y2, y3, y4, y5, y6, y7⟩ := HSB.out.nb.cells
  simp only at y0 y1 y2 y3 y4 y5 y6 y7
  unfold Nd.val
  simp only
  go_enter Try.func48, Try.ntmps48
  go_upto_region 1 with fail
  rw [HW1.out, HAA.out]
  clear HW1
  go_wp2_with fail
  clear y0 y1 y2 y3 y4 y5 y6 y7
  go_loopw [7, 13] (fun ve i u => ∃ (j : Nat) (m' : Mk) (l : List Nat), i = .int .i64 (j : Nat) ∧ j ≤ n ∧ Hid (l.length = j) ∧ Hid (joint (alts (subs.drop j) m' a0 l) = R) ∧ Hid (RowI u w.heap.size ve l) ∧ Hid (Sb w0 b0 B Y A ⟨4, s, a, n, c, mn, mx⟩ w u m')) (fun _ i _ => n - (intOf i).toNat)
  case atStart => exact ⟨0, m, [], rfl, Nat.zero_le _, rfl, HR, rowI_nil _ _, HSB⟩
  case round =>
    clear HSB HR
    obtain ⟨j, m', l, rfl, hjn, HLJ, HRj, HIj, HSj⟩ := hrel
    by_cases hlt : j < n
    · have hlt' : (j : Int) < (n : Int) := by omega
      obtain ⟨t, ht⟩ : ∃ t, subs[j]? = some t := ⟨_, List.getElem?_eq_getElem (by rw [← HN.out]; exact hlt)⟩
      obtain ⟨v, hv⟩ : ∃ v, vs[j]? = some v := ⟨_, List.getElem?_eq_getElem (by rw [HL.out]; exact hlt)⟩
      have HT : Hid (subs[j]? = some t ∧ vs[j]? = some v) := ⟨ht, hv⟩
      clear ht hv
      have HRn : Hid (joint (alts (subs.drop (j + 1)) (lay t (m'.st.fr a0 m'.S) m'.S).1 a0 (l ++ [(lay t (m'.st.fr a0 m'.S) m'.S).2])) = R) := by show _ = _; rw [← alts_next HT.out.1]; exact HRj.out
      have HLE : Hid ((lay t (m'.st.fr a0 m'.S) m'.S).1.le R.1) := by rw [← HRn.out]; exact (alts_le _ _ _ _).trans (joint_le _)
      have HLQ : Hid ((m'.st.fr a0 m'.S).le (lay t (m'.st.fr a0 m'.S) m'.S).1) := lay_le t _ _
      have hS : m'.S + 1 ≤ 1000000 := Nat.le_trans (Nat.le_trans HLQ.out.1 HLE.out.1) HBS.out.1
      have hE : m'.es.length + 1 ≤ 1000000 := by have := Nat.le_trans (Nat.le_trans HLQ.out.2 HLE.out.2) HBS.out.2; simpa [Mk.st, Mk.fr, Mk.ed] using this
      obtain ⟨r, hr⟩ : ∃ r, lay t (m'.st.fr a0 m'.S) m'.S = r := ⟨_, rfl⟩
      have HRR : Hid (lay t (m'.st.fr a0 m'.S) m'.S = r) := hr
      rw [hr] at HRn HLE
      clear hr HLQ
      have hrow := (HRO.out.keep (w' := wr) (Y := fun _ => True) (fun _ _ _ => trivial) (fun b hb hlt => HSj.out.low.2 b hlt hb)).nth HT.out.2
      obtain ⟨g, off, rfl, e0, e1, e2, e3, e4, e5, e6, e7⟩ := hrow
      have kk : Below wr.heap.size wr (wr.alloc (.cells #[.int .i64 v.k, .int .u64 (Oct.word v.s 0 : Nat), .int .u64 (Oct.word v.s 1 : Nat), .int .u64 (Oct.word v.s 2 : Nat), .int .u64 (Oct.word v.s 3 : Nat), .slice v.a v.n v.c, .int .i64 v.mn, .int .i64 v.mx] 30)) := (Below.refl _ _).alloc (Nat.le_refl _) _
      have HS2 : Hid (Sb w0 b0 B Y A ⟨4, s, some ⟨g, off, none⟩, n, c, mn, mx⟩ w (wr.alloc (.cells #[.int .i64 v.k, .int .u64 (Oct.word v.s 0 : Nat), .int .u64 (Oct.word v.s 1 : Nat), .int .u64 (Oct.word v.s 2 : Nat), .int .u64 (Oct.word v.s 3 : Nat), .slice v.a v.n v.c, .int .i64 v.mn, .int .i64 v.mx] 30)) m') := HSj.out.later kk
      have HNV : Hid (NB (wr.alloc (.cells #[.int .i64 v.k, .int .u64 (Oct.word v.s 0 : Nat), .int .u64 (Oct.word v.s 1 : Nat), .int .u64 (Oct.word v.s 2 : Nat), .int .u64 (Oct.word v.s 3 : Nat), .slice v.a v.n v.c, .int .i64 v.mn, .int .i64 v.mx] 30)) wr.heap.size v) := nb_new wr v
      have HI2 : Hid (RowI (wr.alloc (.cells #[.int .i64 v.k, .int .u64 (Oct.word v.s 0 : Nat), .int .u64 (Oct.word v.s 1 : Nat), .int .u64 (Oct.word v.s 2 : Nat), .int .u64 (Oct.word v.s 3 : Nat), .slice v.a v.n v.c, .int .i64 v.mn, .int .i64 v.mx] 30)) w.heap.size u7 l) := HIj.out.keep (fun b _ hlt _ => kk.block b hlt)
      go_upto_region 5 with fail
      obtain ⟨w2, hw2⟩ : ∃ w2, wr.alloc (.cells #[.int .i64 v.k, .int .u64 (Oct.word v.s 0 : Nat), .int .u64 (Oct.word v.s 1 : Nat), .int .u64 (Oct.word v.s 2 : Nat), .int .u64 (Oct.word v.s 3 : Nat), .slice v.a v.n v.c, .int .i64 v.mn, .int .i64 v.mx] 30) = w2 := ⟨_, rfl⟩
      obtain ⟨A2, hA2⟩ : ∃ A2, wr.heap.size = A2 := ⟨_, rfl⟩
      rw [hw2] at HS2 HNV HI2 ⊢
      rw [hA2] at HNV ⊢
      clear hw2 hA2 kk HSj HIj e0 e1 e2 e3 e4 e5 e6 e7
      have HSd : Hid (Sb w0 b0 B Y A ⟨4, s, some ⟨g, off, none⟩, n, c, mn, mx⟩ w w2.drew m') := HS2.out.later ((Below.refl _ _).drew)
      have HNd : Hid (NB w2.drew A2 v) := HNV.out
      have HId : Hid (RowI w2.drew w.heap.size u7 l) := HI2.out
      refine reg48 (B := B) (A := A2) (a := a0) (s := m'.S) (e := r.2) (V := u7) (v := v) (P1 := fun u => Sb w0 b0 B Y A ⟨4, s, some ⟨g, off, none⟩, n, c, mn, mx⟩ w u (m'.st.fr a0 m'.S) ∧ NB u A2 v ∧ RowI u w.heap.size u7 l) (P2 := fun u => Sb w0 b0 B Y A ⟨4, s, some ⟨g, off, none⟩, n, c, mn, mx⟩ w u r.1 ∧ RowI u w.heap.size u7 l) (P3 := fun gg u => Sb w0 b0 B Y A ⟨4, s, some ⟨g, off, none⟩, n, c, mn, mx⟩ w u r.1 ∧ RowI u w.heap.size u7 l ∧ u.cell? ⟨gg, 0, none⟩ = some (.int .i64 (r.2 : Nat))) (P4 := fun V' u => Sb w0 b0 B Y A ⟨4, s, some ⟨g, off, none⟩, n, c, mn, mx⟩ w u r.1 ∧ RowI u w.heap.size V' (l ++ [r.2])) rfl rfl rfl rfl rfl HNV.out (fun u h => h.2.1) ?h1 ?h2 ?h3 ?h4 ?K
      case h1 =>
        refine (fork_any B b0 Y m' a0 w2.drew HSd.out.bb HSd.out.sz (by omega) (by omega)).mono ?_
        rintro e u ⟨rfl, g1, g2⟩
        exact ⟨rfl, HSd.out.call g1 g2, g2.keep HNd.out (HSd.out.bb.ne ⟨_, _, HNd.out⟩ (by decide)) (by decide), HId.out.fmb HSd.out.bb g2⟩
      case h2 =>
        rintro u ⟨p1, p2, p3⟩
        have HC := HIH.out j t v HT.out.1 HT.out.2 u b0 Y (m'.st.fr a0 m'.S) m'.S p1.low H0.out p1.sz p1.bb (by rw [HRR.out]; exact Nat.le_trans HLE.out.1 HBS.out.1) (by rw [HRR.out]; exact Nat.le_trans HLE.out.2 HBS.out.2)
        rw [HRR.out] at HC
        refine HC.mono ?_
        rintro e u2 ⟨rfl, g1, g2⟩
        exact ⟨rfl, p1.call g1 g2, p3.fmb p1.bb g2⟩
      case h3 =>
        rintro u ⟨p1, p2⟩
        have kk : Below u.heap.size u (u.alloc (.cells #[.int .i64 (r.2 : Nat)] 3)) := (Below.refl _ _).alloc (Nat.le_refl _) _
        exact ⟨p1.later kk, p2.keep (fun b _ hlt _ => kk.block b hlt), by rw [World.cell?_alloc_mark]; rfl⟩
      case h4 =>
        rintro g' u ty ⟨p1, p2, p3⟩
        obtain ⟨g2, cap, u', q1, q2, q3⟩ := run_append_int u ty w.heap.size u7 l p2 ⟨g', 0, none⟩ 1 r.2 p3 (by have := HLJ.out; have := HM0.out; omega) p1.fm.size
        exact ⟨_, u', q1, p1.own q3 p2.ty HB.out, q2⟩
      case K =>
        rintro a' W' V' hfr h7 ⟨p1, p2⟩
        rw [fr48_lit hfr rfl, h7]
        have HS6 : Hid (Sb w0 b0 B Y A ⟨4, s, some ⟨g, off, none⟩, n, c, mn, mx⟩ w W' r.1) := p1
        have HI6 : Hid (RowI W' w.heap.size V' (l ++ [r.2])) := p2
        clear p1 p2 h7 HS2 HNV HI2 HSd HNd HId
        obtain ⟨v17, e17⟩ : ∃ v, v = T a' 17 := ⟨_, rfl⟩
        obtain ⟨v18, e18⟩ : ∃ v, v = T a' 18 := ⟨_, rfl⟩
        obtain ⟨v19, e19⟩ : ∃ v, v = T a' 19 := ⟨_, rfl⟩
        obtain ⟨v20, e20⟩ : ∃ v, v = T a' 20 := ⟨_, rfl⟩
        obtain ⟨v21, e21⟩ : ∃ v, v = T a' 21 := ⟨_, rfl⟩
        obtain ⟨v22, e22⟩ : ∃ v, v = T a' 22 := ⟨_, rfl⟩
        obtain ⟨v23, e23⟩ : ∃ v, v = T a' 23 := ⟨_, rfl⟩
        obtain ⟨v24, e24⟩ : ∃ v, v = T a' 24 := ⟨_, rfl⟩
        obtain ⟨v25, e25⟩ : ∃ v, v = T a' 25 := ⟨_, rfl⟩
        rw [← e17, ← e18, ← e19, ← e20, ← e21, ← e22, ← e23, ← e24, ← e25]
        clear e17 e18 e19 e20 e21 e22 e23 e24 e25
        clear hfr
        go_wp2
        go_roundw
        case rel => exact ⟨j + 1, r.1, l ++ [r.2], by go_num, by omega, (by have := HLJ.out; show _ = _; simp; omega), HRn, HI6, HS6⟩
        case measure => simp [intOf]; omega
    · have hlt' : ¬ (j : Int) < (n : Int) := by omega
      have HRF : Hid (joint (m', l) = R) := by
        show _ = _
        rw [← HRj.out, List.drop_of_length_le (by rw [← HN.out]; omega), alts]
      clear HIH HRO HRj
      obtain ⟨oa, oc, hV, hlc, hcm⟩ := HIj.out.form
      subst hV
      obtain ⟨N, hN⟩ : ∃ N, l.length = N := ⟨_, rfl⟩
      rw [hN] at HIj hlc ⊢
      simp only [maxLen] at hcm
      have HC : Hid (Calls Try.prog 70 #[.pointer (some ⟨B, 0, none⟩), .slice oa N oc] wr _) := bjoin_any B b0 Y w.heap.size m' l oa N oc wr hN HSj.out.bb HSj.out.sz HIj.out (by rw [HRF.out]; exact HBS.out.1) (by rw [HRF.out]; exact HBS.out.2)
      rw [HRF.out] at HC
      clear hN hlc hcm HRF
      go_wp2_with fail
      refine HC.out.mono ?_
      rintro e w4 ⟨rfl, h4, f4⟩
      have HS4 : Hid (Sb w0 b0 B Y A ⟨4, s, a, n, c, mn, mx⟩ w w4 R.1) := HSj.out.call h4 f4
      clear h4 f4 HC HSj HIj
      go_wp2
      go_ret
      exact ⟨rfl, HS4.out.bb, HS4.out.fm⟩
end Go.Proofs.Ytjmbimgofceanaa

/- The program's way of a row. -/
namespace Go.Proofs.Ytjmbimgofceanaa
open Go.RowKit
attribute [local go_sem ↓] Go.wp_at_zero Go.wp_at_succ

theorem seqs_next {ts : List Tn} {i : Nat} {t : Tn} (h : ts[i]? = some t) (m : Mk) (a : Nat) : seqs (ts.drop i) m a = seqs (ts.drop (i + 1)) (lay t m a).1 (lay t m a).2 := by
  have hlt := (List.getElem?_eq_some_iff.1 h).1
  rw [List.drop_eq_getElem_cons hlt, (List.getElem?_eq_some_iff.1 h).2, seqs]
set_option maxRecDepth 4000 in
set_option maxHeartbeats 8000000 in
theorem way_seq {w0 : World} {B : Nat} {s : Oct.S} {subs : List Tn} {mn mx : Int} {a : Option Addr} {n c : Nat} {vs : List Nd} (hn : n = subs.length) (hl : vs.length = n) (hm : n ≤ 1000000) (hr : RowAt (fun b => b ≠ B) w0 a vs) (hs : ∀ (i : Nat) (t : Tn) (v : Nd), subs[i]? = some t → vs[i]? = some v → LayV w0 B t v) : WayV 47 w0 B (.mk 3 s subs mn mx) ⟨3, s, a, n, c, mn, mx⟩ := by
  intro w b0 Y m a0 hlow h0 hb hbb hS hE
  obtain ⟨R, hR⟩ : ∃ R, lay (.mk 3 s subs mn mx) m a0 = R := ⟨_, rfl⟩
  rw [hR] at hS hE ⊢
  have HR : Hid (seqs subs m a0 = R) := by show _ = _; rw [← hR, lay_mk]; simp
  have HIH : Hid (∀ (i : Nat) (t : Tn) (v : Nd), subs[i]? = some t → vs[i]? = some v → LayV w0 B t v) := hs
  have HRO : Hid (RowAt (fun b => b ≠ B) w0 a vs) := hr
  have HN : Hid (n = subs.length) := hn
  have HL : Hid (vs.length = n) := hl
  have HBS : Hid (R.1.S ≤ 1000000 ∧ R.1.es.length ≤ 1000000) := ⟨hS, hE⟩
  have HM0 : Hid (n ≤ 1000000) := hm
  clear hs hr hn hl hS hE hR
  have HSB : Hid (Sb w0 b0 B Y w.heap.size ⟨3, s, a, n, c, mn, mx⟩ w (w.alloc (.cells #[.int .i64 3, .int .u64 (Oct.word s 0 : Nat), .int .u64 (Oct.word s 1 : Nat), .int .u64 (Oct.word s 2 : Nat), .int .u64 (Oct.word s 3 : Nat), .slice a n c, .int .i64 mn, .int .i64 mx] 30)) m) := sb_start w0 ⟨3, s, a, n, c, mn, mx⟩ hbb hlow hb h0
  obtain ⟨w1, hw1⟩ : ∃ w1, w.alloc (.cells #[.int .i64 3, .int .u64 (Oct.word s 0 : Nat), .int .u64 (Oct.word s 1 : Nat), .int .u64 (Oct.word s 2 : Nat), .int .u64 (Oct.word s 3 : Nat), .slice a n c, .int .i64 mn, .int .i64 mx] 30) = w1 := ⟨_, rfl⟩
  rw [hw1] at HSB
  obtain ⟨A, hA⟩ : ∃ A, w.heap.size = A := ⟨_, rfl⟩
  rw [hA] at HSB
  have HW1 : Hid (w.alloc (.cells #[.int .i64 3, .int .u64 (Oct.word s 0 : Nat), .int .u64 (Oct.word s 1 : Nat), .int .u64 (Oct.word s 2 : Nat), .int .u64 (Oct.word s 3 : Nat), .slice a n c, .int .i64 mn, .int .i64 mx] 30) = w1) := hw1
  have HAA : Hid (w.heap.size = A) := hA
  have HB : Hid (b0 ≤ w.heap.size) := hb
  have H0 : Hid (w0.heap.size ≤ b0) := h0
  clear hw1 hA hb h0 hlow hbb
  obtain ⟨y0, y1, y2, y3, y4, y5, y6, y7⟩ := HSB.out.nb.cells
  simp only at y0 y1 y2 y3 y4 y5 y6 y7
  unfold Nd.val
  simp only
  go_enter Try.func47, Try.ntmps47
  go_upto_region 1 with fail
  rw [HW1.out, HAA.out]
  clear HW1
  go_wp2_with fail
  clear y0 y1 y2 y3 y4 y5 y6 y7
  go_loopw [2, 12] (fun va i u => ∃ (j : Nat) (m' : Mk) (a' : Nat), va = .int .i64 (a' : Nat) ∧ i = .int .i64 (j : Nat) ∧ j ≤ n ∧ Hid (seqs (subs.drop j) m' a' = R) ∧ Hid (Sb w0 b0 B Y A ⟨3, s, a, n, c, mn, mx⟩ w u m')) (fun _ i _ => n - (intOf i).toNat)
  case atStart => exact ⟨0, m, a0, rfl, rfl, Nat.zero_le _, HR, HSB⟩
  case round =>
    clear HSB HR
    obtain ⟨j, m', a', rfl, rfl, hjn, HRj, HSj⟩ := hrel
    by_cases hlt : j < n
    · have hlt' : (j : Int) < (n : Int) := by omega
      obtain ⟨t, ht⟩ : ∃ t, subs[j]? = some t := ⟨_, List.getElem?_eq_getElem (by rw [← HN.out]; exact hlt)⟩
      obtain ⟨v, hv⟩ : ∃ v, vs[j]? = some v := ⟨_, List.getElem?_eq_getElem (by rw [HL.out]; exact hlt)⟩
      have hrow := (HRO.out.keep (w' := wr) (Y := fun _ => True) (fun _ _ _ => trivial) (fun b hb hlt => HSj.out.low.2 b hlt hb)).nth hv
      obtain ⟨g, off, rfl, e0, e1, e2, e3, e4, e5, e6, e7⟩ := hrow
      have HRn : Hid (seqs (subs.drop (j + 1)) (lay t m' a').1 (lay t m' a').2 = R) := (seqs_next ht m' a').symm.trans HRj.out
      have hle := seqs_le (subs.drop (j + 1)) (lay t m' a').1 (lay t m' a').2
      rw [HRn.out] at hle
      have kk : Below wr.heap.size wr (wr.alloc (.cells #[.int .i64 v.k, .int .u64 (Oct.word v.s 0 : Nat), .int .u64 (Oct.word v.s 1 : Nat), .int .u64 (Oct.word v.s 2 : Nat), .int .u64 (Oct.word v.s 3 : Nat), .slice v.a v.n v.c, .int .i64 v.mn, .int .i64 v.mx] 30)) := (Below.refl _ _).alloc (Nat.le_refl _) _
      have HS2 : Hid (Sb w0 b0 B Y A ⟨3, s, some ⟨g, off, none⟩, n, c, mn, mx⟩ w (wr.alloc (.cells #[.int .i64 v.k, .int .u64 (Oct.word v.s 0 : Nat), .int .u64 (Oct.word v.s 1 : Nat), .int .u64 (Oct.word v.s 2 : Nat), .int .u64 (Oct.word v.s 3 : Nat), .slice v.a v.n v.c, .int .i64 v.mn, .int .i64 v.mx] 30)) m') := HSj.out.later kk
      have HNV : Hid (NB (wr.alloc (.cells #[.int .i64 v.k, .int .u64 (Oct.word v.s 0 : Nat), .int .u64 (Oct.word v.s 1 : Nat), .int .u64 (Oct.word v.s 2 : Nat), .int .u64 (Oct.word v.s 3 : Nat), .slice v.a v.n v.c, .int .i64 v.mn, .int .i64 v.mx] 30)) wr.heap.size v) := nb_new wr v
      go_upto_region 4 with fail
      obtain ⟨w2, hw2⟩ : ∃ w2, wr.alloc (.cells #[.int .i64 v.k, .int .u64 (Oct.word v.s 0 : Nat), .int .u64 (Oct.word v.s 1 : Nat), .int .u64 (Oct.word v.s 2 : Nat), .int .u64 (Oct.word v.s 3 : Nat), .slice v.a v.n v.c, .int .i64 v.mn, .int .i64 v.mx] 30) = w2 := ⟨_, rfl⟩
      obtain ⟨A2, hA2⟩ : ∃ A2, wr.heap.size = A2 := ⟨_, rfl⟩
      rw [hw2] at HS2 HNV ⊢
      rw [hA2] at HNV ⊢
      clear hw2 hA2 kk HSj e0 e1 e2 e3 e4 e5 e6 e7
      obtain ⟨y0, y1, y2, y3, y4, y5, y6, y7⟩ := HNV.out.cells
      have HC : Hid (Calls Try.prog 29 #[.pointer (some ⟨B, 0, none⟩), v.val, .int .i64 (a' : Nat)] w2 _) := HIH.out j t v ht hv w2 b0 Y m' a' HS2.out.low H0.out HS2.out.sz HS2.out.bb (Nat.le_trans hle.1 HBS.out.1) (Nat.le_trans hle.2 HBS.out.2)
      obtain ⟨r, hr⟩ : ∃ r, lay t m' a' = r := ⟨_, rfl⟩
      rw [hr] at HC HRn
      clear hr hle ht hv HRj
      unfold Nd.val at HC
      go_wp2_with fail
      refine HC.out.mono ?_
      rintro e w4 ⟨rfl, h4, f4⟩
      have HS4 : Hid (Sb w0 b0 B Y A ⟨3, s, some ⟨g, off, none⟩, n, c, mn, mx⟩ w w4 r.1) := HS2.out.call h4 f4
      clear h4 f4 HC HS2 HNV y0 y1 y2 y3 y4 y5 y6 y7
      go_wp2
      go_roundw
      case rel => exact ⟨j + 1, r.1, r.2, rfl, by go_num, by omega, HRn, HS4⟩
      case measure => simp [intOf]; omega
    · have hlt' : ¬ (j : Int) < (n : Int) := by omega
      have HE : Hid (R = (m', a')) := by
        show _ = _
        rw [← HRj.out, List.drop_of_length_le (by rw [← HN.out]; omega), seqs]
      have HM : Hid (BB wr b0 B Y m' ∧ Fm b0 B w wr) := ⟨HSj.out.bb, HSj.out.fm⟩
      clear HIH HRO HBS HRj
      go_wp2
      go_ret
      rw [HE.out]
      exact ⟨rfl, HM.out.1, HM.out.2⟩
end Go.Proofs.Ytjmbimgofceanaa

/- The program's ways of a set, an anchor, of nothing. -/
namespace Go.Proofs.Ytjmbimgofceanaa
open Go.RowKit
attribute [local go_sem ↓] Go.wp_at_zero Go.wp_at_succ

set_option maxRecDepth 4000 in
set_option maxHeartbeats 8000000 in
theorem way_2 {w0 : World} {B : Nat} {s : Oct.S} {subs : List Tn} {mn mx : Int} {a : Option Addr} {n c : Nat} {vs : List Nd} (hn : n = subs.length) (hl : vs.length = n) (hm : n ≤ 1000000) (hr : RowAt (fun b => b ≠ B) w0 a vs) (hs : ∀ (i : Nat) (t : Tn) (v : Nd), subs[i]? = some t → vs[i]? = some v → LayV w0 B t v) : WayV 46 w0 B (.mk 2 s subs mn mx) ⟨2, s, a, n, c, mn, mx⟩ := by
  intro w b0 Y m a0 hlow h0 hb hbb hS hE
  obtain ⟨R, hR⟩ : ∃ R, lay (.mk 2 s subs mn mx) m a0 = R := ⟨_, rfl⟩
  rw [hR] at hS hE ⊢
  have HR : Hid ((m.st.ed ⟨2, a0, m.S, s⟩, m.S) = R) := by show _ = _; rw [← hR, lay_mk]; simp
  have HIH : Hid (∀ (i : Nat) (t : Tn) (v : Nd), subs[i]? = some t → vs[i]? = some v → LayV w0 B t v) := hs
  have HRO : Hid (RowAt (fun b => b ≠ B) w0 a vs) := hr
  have HN : Hid (n = subs.length) := hn
  have HL : Hid (vs.length = n) := hl
  have HBS : Hid (R.1.S ≤ 1000000 ∧ R.1.es.length ≤ 1000000) := ⟨hS, hE⟩
  have HM0 : Hid (n ≤ 1000000) := hm
  clear hs hr hn hl hS hE hR
  have HSB : Hid (Sb w0 b0 B Y w.heap.size ⟨2, s, a, n, c, mn, mx⟩ w (w.alloc (.cells #[.int .i64 2, .int .u64 (Oct.word s 0 : Nat), .int .u64 (Oct.word s 1 : Nat), .int .u64 (Oct.word s 2 : Nat), .int .u64 (Oct.word s 3 : Nat), .slice a n c, .int .i64 mn, .int .i64 mx] 30)) m) := sb_start w0 ⟨2, s, a, n, c, mn, mx⟩ hbb hlow hb h0
  obtain ⟨w1, hw1⟩ : ∃ w1, w.alloc (.cells #[.int .i64 2, .int .u64 (Oct.word s 0 : Nat), .int .u64 (Oct.word s 1 : Nat), .int .u64 (Oct.word s 2 : Nat), .int .u64 (Oct.word s 3 : Nat), .slice a n c, .int .i64 mn, .int .i64 mx] 30) = w1 := ⟨_, rfl⟩
  rw [hw1] at HSB
  obtain ⟨A, hA⟩ : ∃ A, w.heap.size = A := ⟨_, rfl⟩
  rw [hA] at HSB
  have HW1 : Hid (w.alloc (.cells #[.int .i64 2, .int .u64 (Oct.word s 0 : Nat), .int .u64 (Oct.word s 1 : Nat), .int .u64 (Oct.word s 2 : Nat), .int .u64 (Oct.word s 3 : Nat), .slice a n c, .int .i64 mn, .int .i64 mx] 30) = w1) := hw1
  have HAA : Hid (w.heap.size = A) := hA
  have HB : Hid (b0 ≤ w.heap.size) := hb
  have H0 : Hid (w0.heap.size ≤ b0) := h0
  clear hw1 hA hb h0 hlow hbb
  obtain ⟨y0, y1, y2, y3, y4, y5, y6, y7⟩ := HSB.out.nb.cells
  simp only at y0 y1 y2 y3 y4 y5 y6 y7
  unfold Nd.val
  simp only
  go_enter Try.func46, Try.ntmps46
  go_upto_region 1 with fail
  rw [HW1.out, HAA.out]
  clear HW1
  clear HIH HRO
  have hgr : m.S + 1 ≤ 1000000 := by have := HBS.out.1; rw [← HR.out] at this; exact this
  have hge : m.es.length + 1 ≤ 1000000 := by have := HBS.out.2; rw [← HR.out] at this; simpa [Mk.st, Mk.ed] using this
  have HC : Hid (Calls Try.prog 68 #[.pointer (some ⟨B, 0, none⟩), .int .i64 2, .int .i64 (a0 : Nat), setV s] w1 _) := onward_any B b0 Y m 2 a0 s w1 HSB.out.bb HSB.out.sz (by omega) (by omega)
  unfold setV at HC
  go_wp2_with fail
  refine HC.out.mono ?_
  rintro e w2 ⟨rfl, h2, f2⟩
  have HS2 : Hid (Sb w0 b0 B Y A ⟨2, s, a, n, c, mn, mx⟩ w w2 (m.st.ed ⟨2, a0, m.S, s⟩)) := HSB.out.call h2 f2
  clear h2 f2 HSB HC y0 y1 y2 y3 y4 y5 y6 y7
  go_wp2
  go_ret
  rw [← HR.out]
  exact ⟨rfl, HS2.out.bb, HS2.out.fm⟩
set_option maxRecDepth 4000 in
set_option maxHeartbeats 8000000 in
theorem way_6 {w0 : World} {B : Nat} {s : Oct.S} {subs : List Tn} {mn mx : Int} {a : Option Addr} {n c : Nat} {vs : List Nd} (hn : n = subs.length) (hl : vs.length = n) (hm : n ≤ 1000000) (hr : RowAt (fun b => b ≠ B) w0 a vs) (hs : ∀ (i : Nat) (t : Tn) (v : Nd), subs[i]? = some t → vs[i]? = some v → LayV w0 B t v) (hno : noSet s = true) : WayV 50 w0 B (.mk 6 s subs mn mx) ⟨6, s, a, n, c, mn, mx⟩ := by
  have hz : Oct.word s 0 = 0 ∧ Oct.word s 1 = 0 ∧ Oct.word s 2 = 0 ∧ Oct.word s 3 = 0 := by
    unfold noSet at hno
    simp at hno
    omega
  have HZS : Hid (Oct.word s 0 = 0 ∧ Oct.word s 1 = 0 ∧ Oct.word s 2 = 0 ∧ Oct.word s 3 = 0) := hz
  clear hz hno
  intro w b0 Y m a0 hlow h0 hb hbb hS hE
  obtain ⟨R, hR⟩ : ∃ R, lay (.mk 6 s subs mn mx) m a0 = R := ⟨_, rfl⟩
  rw [hR] at hS hE ⊢
  have HR : Hid ((m.st.ed ⟨3, a0, m.S, s⟩, m.S) = R) := by show _ = _; rw [← hR, lay_mk]; simp
  have HIH : Hid (∀ (i : Nat) (t : Tn) (v : Nd), subs[i]? = some t → vs[i]? = some v → LayV w0 B t v) := hs
  have HRO : Hid (RowAt (fun b => b ≠ B) w0 a vs) := hr
  have HN : Hid (n = subs.length) := hn
  have HL : Hid (vs.length = n) := hl
  have HBS : Hid (R.1.S ≤ 1000000 ∧ R.1.es.length ≤ 1000000) := ⟨hS, hE⟩
  have HM0 : Hid (n ≤ 1000000) := hm
  clear hs hr hn hl hS hE hR
  have HSB : Hid (Sb w0 b0 B Y w.heap.size ⟨6, s, a, n, c, mn, mx⟩ w (w.alloc (.cells #[.int .i64 6, .int .u64 (Oct.word s 0 : Nat), .int .u64 (Oct.word s 1 : Nat), .int .u64 (Oct.word s 2 : Nat), .int .u64 (Oct.word s 3 : Nat), .slice a n c, .int .i64 mn, .int .i64 mx] 30)) m) := sb_start w0 ⟨6, s, a, n, c, mn, mx⟩ hbb hlow hb h0
  obtain ⟨w1, hw1⟩ : ∃ w1, w.alloc (.cells #[.int .i64 6, .int .u64 (Oct.word s 0 : Nat), .int .u64 (Oct.word s 1 : Nat), .int .u64 (Oct.word s 2 : Nat), .int .u64 (Oct.word s 3 : Nat), .slice a n c, .int .i64 mn, .int .i64 mx] 30) = w1 := ⟨_, rfl⟩
  rw [hw1] at HSB
  obtain ⟨A, hA⟩ : ∃ A, w.heap.size = A := ⟨_, rfl⟩
  rw [hA] at HSB
  have HW1 : Hid (w.alloc (.cells #[.int .i64 6, .int .u64 (Oct.word s 0 : Nat), .int .u64 (Oct.word s 1 : Nat), .int .u64 (Oct.word s 2 : Nat), .int .u64 (Oct.word s 3 : Nat), .slice a n c, .int .i64 mn, .int .i64 mx] 30) = w1) := hw1
  have HAA : Hid (w.heap.size = A) := hA
  have HB : Hid (b0 ≤ w.heap.size) := hb
  have H0 : Hid (w0.heap.size ≤ b0) := h0
  clear hw1 hA hb h0 hlow hbb
  obtain ⟨y0, y1, y2, y3, y4, y5, y6, y7⟩ := HSB.out.nb.cells
  simp only at y0 y1 y2 y3 y4 y5 y6 y7
  unfold Nd.val
  simp only
  go_enter Try.func50, Try.ntmps50
  go_upto_region 1 with fail
  rw [HW1.out, HAA.out]
  clear HW1
  clear HIH HRO
  have hgr : m.S + 1 ≤ 1000000 := by have := HBS.out.1; rw [← HR.out] at this; exact this
  have hge : m.es.length + 1 ≤ 1000000 := by have := HBS.out.2; rw [← HR.out] at this; simpa [Mk.st, Mk.ed] using this
  have HC : Hid (Calls Try.prog 68 #[.pointer (some ⟨B, 0, none⟩), .int .i64 3, .int .i64 (a0 : Nat), setV s] w1 _) := onward_any B b0 Y m 3 a0 s w1 HSB.out.bb HSB.out.sz (by omega) (by omega)
  unfold setV at HC
  rw [HZS.out.1, HZS.out.2.1, HZS.out.2.2.1, HZS.out.2.2.2] at HC
  simp only [Int.natCast_zero] at HC
  go_wp2_with fail
  refine HC.out.mono ?_
  rintro e w2 ⟨rfl, h2, f2⟩
  have HS2 : Hid (Sb w0 b0 B Y A ⟨6, s, a, n, c, mn, mx⟩ w w2 (m.st.ed ⟨3, a0, m.S, s⟩)) := HSB.out.call h2 f2
  clear h2 f2 HSB HC y0 y1 y2 y3 y4 y5 y6 y7
  go_wp2
  go_ret
  rw [← HR.out]
  exact ⟨rfl, HS2.out.bb, HS2.out.fm⟩
set_option maxRecDepth 4000 in
set_option maxHeartbeats 8000000 in
theorem way_7 {w0 : World} {B : Nat} {s : Oct.S} {subs : List Tn} {mn mx : Int} {a : Option Addr} {n c : Nat} {vs : List Nd} (hn : n = subs.length) (hl : vs.length = n) (hm : n ≤ 1000000) (hr : RowAt (fun b => b ≠ B) w0 a vs) (hs : ∀ (i : Nat) (t : Tn) (v : Nd), subs[i]? = some t → vs[i]? = some v → LayV w0 B t v) (hno : noSet s = true) : WayV 51 w0 B (.mk 7 s subs mn mx) ⟨7, s, a, n, c, mn, mx⟩ := by
  have hz : Oct.word s 0 = 0 ∧ Oct.word s 1 = 0 ∧ Oct.word s 2 = 0 ∧ Oct.word s 3 = 0 := by
    unfold noSet at hno
    simp at hno
    omega
  have HZS : Hid (Oct.word s 0 = 0 ∧ Oct.word s 1 = 0 ∧ Oct.word s 2 = 0 ∧ Oct.word s 3 = 0) := hz
  clear hz hno
  intro w b0 Y m a0 hlow h0 hb hbb hS hE
  obtain ⟨R, hR⟩ : ∃ R, lay (.mk 7 s subs mn mx) m a0 = R := ⟨_, rfl⟩
  rw [hR] at hS hE ⊢
  have HR : Hid ((m.st.ed ⟨4, a0, m.S, s⟩, m.S) = R) := by show _ = _; rw [← hR, lay_mk]; simp
  have HIH : Hid (∀ (i : Nat) (t : Tn) (v : Nd), subs[i]? = some t → vs[i]? = some v → LayV w0 B t v) := hs
  have HRO : Hid (RowAt (fun b => b ≠ B) w0 a vs) := hr
  have HN : Hid (n = subs.length) := hn
  have HL : Hid (vs.length = n) := hl
  have HBS : Hid (R.1.S ≤ 1000000 ∧ R.1.es.length ≤ 1000000) := ⟨hS, hE⟩
  have HM0 : Hid (n ≤ 1000000) := hm
  clear hs hr hn hl hS hE hR
  have HSB : Hid (Sb w0 b0 B Y w.heap.size ⟨7, s, a, n, c, mn, mx⟩ w (w.alloc (.cells #[.int .i64 7, .int .u64 (Oct.word s 0 : Nat), .int .u64 (Oct.word s 1 : Nat), .int .u64 (Oct.word s 2 : Nat), .int .u64 (Oct.word s 3 : Nat), .slice a n c, .int .i64 mn, .int .i64 mx] 30)) m) := sb_start w0 ⟨7, s, a, n, c, mn, mx⟩ hbb hlow hb h0
  obtain ⟨w1, hw1⟩ : ∃ w1, w.alloc (.cells #[.int .i64 7, .int .u64 (Oct.word s 0 : Nat), .int .u64 (Oct.word s 1 : Nat), .int .u64 (Oct.word s 2 : Nat), .int .u64 (Oct.word s 3 : Nat), .slice a n c, .int .i64 mn, .int .i64 mx] 30) = w1 := ⟨_, rfl⟩
  rw [hw1] at HSB
  obtain ⟨A, hA⟩ : ∃ A, w.heap.size = A := ⟨_, rfl⟩
  rw [hA] at HSB
  have HW1 : Hid (w.alloc (.cells #[.int .i64 7, .int .u64 (Oct.word s 0 : Nat), .int .u64 (Oct.word s 1 : Nat), .int .u64 (Oct.word s 2 : Nat), .int .u64 (Oct.word s 3 : Nat), .slice a n c, .int .i64 mn, .int .i64 mx] 30) = w1) := hw1
  have HAA : Hid (w.heap.size = A) := hA
  have HB : Hid (b0 ≤ w.heap.size) := hb
  have H0 : Hid (w0.heap.size ≤ b0) := h0
  clear hw1 hA hb h0 hlow hbb
  obtain ⟨y0, y1, y2, y3, y4, y5, y6, y7⟩ := HSB.out.nb.cells
  simp only at y0 y1 y2 y3 y4 y5 y6 y7
  unfold Nd.val
  simp only
  go_enter Try.func51, Try.ntmps51
  go_upto_region 1 with fail
  rw [HW1.out, HAA.out]
  clear HW1
  clear HIH HRO
  have hgr : m.S + 1 ≤ 1000000 := by have := HBS.out.1; rw [← HR.out] at this; exact this
  have hge : m.es.length + 1 ≤ 1000000 := by have := HBS.out.2; rw [← HR.out] at this; simpa [Mk.st, Mk.ed] using this
  have HC : Hid (Calls Try.prog 68 #[.pointer (some ⟨B, 0, none⟩), .int .i64 4, .int .i64 (a0 : Nat), setV s] w1 _) := onward_any B b0 Y m 4 a0 s w1 HSB.out.bb HSB.out.sz (by omega) (by omega)
  unfold setV at HC
  rw [HZS.out.1, HZS.out.2.1, HZS.out.2.2.1, HZS.out.2.2.2] at HC
  simp only [Int.natCast_zero] at HC
  go_wp2_with fail
  refine HC.out.mono ?_
  rintro e w2 ⟨rfl, h2, f2⟩
  have HS2 : Hid (Sb w0 b0 B Y A ⟨7, s, a, n, c, mn, mx⟩ w w2 (m.st.ed ⟨4, a0, m.S, s⟩)) := HSB.out.call h2 f2
  clear h2 f2 HSB HC y0 y1 y2 y3 y4 y5 y6 y7
  go_wp2
  go_ret
  rw [← HR.out]
  exact ⟨rfl, HS2.out.bb, HS2.out.fm⟩
set_option maxRecDepth 4000 in
set_option maxHeartbeats 8000000 in
theorem way_1 {w0 : World} {B : Nat} {s : Oct.S} {subs : List Tn} {mn mx : Int} {a : Option Addr} {n c : Nat} {vs : List Nd} (hn : n = subs.length) (hl : vs.length = n) (hm : n ≤ 1000000) (hr : RowAt (fun b => b ≠ B) w0 a vs) (hs : ∀ (i : Nat) (t : Tn) (v : Nd), subs[i]? = some t → vs[i]? = some v → LayV w0 B t v) : WayV 45 w0 B (.mk 1 s subs mn mx) ⟨1, s, a, n, c, mn, mx⟩ := by
  intro w b0 Y m a0 hlow h0 hb hbb hS hE
  obtain ⟨R, hR⟩ : ∃ R, lay (.mk 1 s subs mn mx) m a0 = R := ⟨_, rfl⟩
  rw [hR] at hS hE ⊢
  have HR : Hid ((m, a0) = R) := by show _ = _; rw [← hR, lay_mk]; simp
  have HIH : Hid (∀ (i : Nat) (t : Tn) (v : Nd), subs[i]? = some t → vs[i]? = some v → LayV w0 B t v) := hs
  have HRO : Hid (RowAt (fun b => b ≠ B) w0 a vs) := hr
  have HN : Hid (n = subs.length) := hn
  have HL : Hid (vs.length = n) := hl
  have HBS : Hid (R.1.S ≤ 1000000 ∧ R.1.es.length ≤ 1000000) := ⟨hS, hE⟩
  have HM0 : Hid (n ≤ 1000000) := hm
  clear hs hr hn hl hS hE hR
  have HSB : Hid (Sb w0 b0 B Y w.heap.size ⟨1, s, a, n, c, mn, mx⟩ w (w.alloc (.cells #[.int .i64 1, .int .u64 (Oct.word s 0 : Nat), .int .u64 (Oct.word s 1 : Nat), .int .u64 (Oct.word s 2 : Nat), .int .u64 (Oct.word s 3 : Nat), .slice a n c, .int .i64 mn, .int .i64 mx] 30)) m) := sb_start w0 ⟨1, s, a, n, c, mn, mx⟩ hbb hlow hb h0
  obtain ⟨w1, hw1⟩ : ∃ w1, w.alloc (.cells #[.int .i64 1, .int .u64 (Oct.word s 0 : Nat), .int .u64 (Oct.word s 1 : Nat), .int .u64 (Oct.word s 2 : Nat), .int .u64 (Oct.word s 3 : Nat), .slice a n c, .int .i64 mn, .int .i64 mx] 30) = w1 := ⟨_, rfl⟩
  rw [hw1] at HSB
  obtain ⟨A, hA⟩ : ∃ A, w.heap.size = A := ⟨_, rfl⟩
  rw [hA] at HSB
  have HW1 : Hid (w.alloc (.cells #[.int .i64 1, .int .u64 (Oct.word s 0 : Nat), .int .u64 (Oct.word s 1 : Nat), .int .u64 (Oct.word s 2 : Nat), .int .u64 (Oct.word s 3 : Nat), .slice a n c, .int .i64 mn, .int .i64 mx] 30) = w1) := hw1
  have HAA : Hid (w.heap.size = A) := hA
  have HB : Hid (b0 ≤ w.heap.size) := hb
  have H0 : Hid (w0.heap.size ≤ b0) := h0
  clear hw1 hA hb h0 hlow hbb
  obtain ⟨y0, y1, y2, y3, y4, y5, y6, y7⟩ := HSB.out.nb.cells
  simp only at y0 y1 y2 y3 y4 y5 y6 y7
  unfold Nd.val
  simp only
  go_enter Try.func45, Try.ntmps45
  go_upto_region 1 with fail
  rw [HW1.out, HAA.out]
  clear HW1
  clear HIH HRO
  go_wp2
  go_ret
  rw [← HR.out]
  exact ⟨rfl, HSB.out.bb, HSB.out.fm⟩
end Go.Proofs.Ytjmbimgofceanaa

