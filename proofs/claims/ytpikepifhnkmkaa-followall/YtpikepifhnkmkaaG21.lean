/- simfs: Rename, whole. -/
import Derived.Test.YtpikepifhnkmkaaG20
namespace Go.Proofs.Ytpikepifhnkmkaa
open Go.RowKit Go.Maps Sf
attribute [local go_sem ↓] Go.wp_at_zero Go.wp_at_succ

theorem beq_bytes (a b : ByteArray) : (a.toList == b.toList) = decide (a = b) := by
  rw [ByteArray.toList_eq, ByteArray.toList_eq, Bool.eq_iff_iff]
  simp only [beq_iff_eq, decide_eq_true_eq]
  constructor
  · intro h
    have := Array.toList_inj.1 h
    cases a; cases b; simp_all
  · intro h; rw [h]
/-- what Rename answers -/
def renE (d : Dk) (a b : ByteArray) : Nat := if err d a = 140 ∨ may b = false then 140 else err d a
def RenPost (P : Nat → Prop) (d : Dk) (K B : Nat) (a b : ByteArray) (w : World) (e : Ending) (w' : World) : Prop :=
  e = .returned (.int .i64 (renE d a b : Nat)) ∧ ((renE d a b = 0 ∧ a ≠ b ∧ DkTo P w B (Sf.rename d a b) (K + 1) w') ∨ ((renE d a b ≠ 0 ∨ a = b) ∧ Below w.heap.size w w'))
/-- a name's label is laid to no inode -/
theorem ren_lab {P : Nat → Prop} {w : World} {B : Nat} {d : Dk} {L : Lay} (h : DkAt P w B d L) {s : ByteArray} {q : Nat × Nat} (hq : d.lab s = some q) :
    DkAt (More P w (w.setCell ⟨L.an s, 1, none⟩ (.int .i64 0))) (w.setCell ⟨L.an s, 1, none⟩ (.int .i64 0)) B (Sf.putL d s (ser d s) 0) L ∧ FrP P w (w.setCell ⟨L.an s, 1, none⟩ (.int .i64 0)) := by
  have hfr : FrP (fun k => k = L.an s) w (w.setCell ⟨L.an s, 1, none⟩ (.int .i64 0)) := FrP.set (FrP.refl (fun k => k = L.an s) w) (fun _ => rfl) 1 _
  have h2 := h.putL (q' := (q.1, 0)) hq ((h.lb s q hq).put1 0) hfr
  rw [ser_lab hq]
  exact ⟨h2, hfr.mono (fun k _ e => by subst e; exact h.pL _ _ hq)⟩
/-- the rest of Rename: the old name's label, then the arrival -/
theorem ren_end {P : Nat → Prop} {w w1 w2 w3 w4 : World} {B K : Nat} {d d' : Dk} {L' : Lay} (hp : ∀ k, P k → k < w.heap.size) (k1 : FrP P w w1) (f2 : FrP (More P w w1) w1 w2) (f3 : FrP (More (More P w w1) w1 w2) w2 w3) (h4 : DkAt (More (More (More P w w1) w1 w2) w2 w3) w3 B d' L') (hc : L'.ci ≤ K + 1 ∧ L'.cn ≤ K + 1) (hd : d' = d) (hw : w4 = w3) : DkTo P w B d (K + 1) w4 := by
  subst hd hw
  have z1 := k1.size
  have z2 := f2.size
  have z3 := f3.size
  refine ⟨⟨L', h4.mono (fun k hk => ?_) (fun k hk => ?_), hc⟩, frp_more (frp_more k1 f2) (f3.mono (fun k hk hq => ?_))⟩
  · rcases hk with ((hk | hk) | hk) | hk
    · exact .inl hk
    · exact .inr ⟨by omega, by omega⟩
    · exact .inr ⟨by omega, by omega⟩
    · exact .inr ⟨by omega, hk.2⟩
  · rcases hk with hk | hk
    · have := hp k hk; omega
    · exact hk.2
  · rcases hq with (hq | hq) | hq
    · exact .inl hq
    · exact .inr ⟨by omega, by omega⟩
    · exact .inr ⟨by omega, by omega⟩
set_option maxRecDepth 8000 in
set_option maxHeartbeats 1000000 in
theorem rename_any {P : Nat → Prop} {w : World} {B K : Nat} {d : Dk} (h : Dsk P w B d K) (a b : ByteArray) (ha : a.size ≤ maxLen) (hb : b.size ≤ maxLen) :
    Calls Try.prog 9 #[.pointer (some ⟨B, 0, none⟩), .string a, .string b] w (RenPost P d K B a b w) := by
  obtain ⟨L, hL, hc⟩ := h.m
  have HF : Hid (Calls Try.prog 24 #[.pointer (some ⟨B, 0, none⟩), .string a] w _) := dsk_file h hL a ha
  have HM : Hid (∀ u, Calls Try.prog 25 #[.string b] u fun e w' => e = .returned (.bool (may b)) ∧ w' = u) := fun u => mayBe_any b u hb
  rcases err_cases d a with he | he | he
  · cases hm : may b with
    | false =>
      have HR : Hid (renE d a b = 140) := by show _ = _; unfold renE; rw [if_pos (.inr hm)]
      have hfv : fileV d L a = .pointer (some ⟨L.ai (num d a), 0, none⟩) := by unfold fileV; rw [if_pos he]
      rw [hfv, he] at HF
      rw [hm] at HM
      clear h hL hc ha hb hfv he hm
      go_enter Try.func9, Try.ntmps9
      go_wp2_with fail
      refine HF.out.mono ?_
      rintro e w1 ⟨rfl, k1⟩
      have HC := HM.out w1
      have HC : Hid (Calls Try.prog 25 #[.string b] w1 _) := HC
      clear HF HM
      go_wp2_with fail
      refine HC.out.mono ?_
      rintro e w2 ⟨rfl, rfl⟩
      clear HC
      go_wp2
      go_ret
      exact ⟨by rw [HR.out]; rfl, .inr ⟨.inl (by rw [HR.out]; omega), k1⟩⟩
    | true =>
      have HR : Hid (renE d a b = 0) := by show _ = _; unfold renE; rw [if_neg (by rw [he, hm]; simp), he]
      have hfv : fileV d L a = .pointer (some ⟨L.ai (num d a), 0, none⟩) := by unfold fileV; rw [if_pos he]
      rw [hfv, he] at HF
      rw [hm] at HM
      by_cases hab : a = b
      · subst hab
        clear h hL hc ha hb hfv he hm
        go_enter Try.func9, Try.ntmps9
        go_wp2_with fail
        refine HF.out.mono ?_
        rintro e w1 ⟨rfl, k1⟩
        have HC := HM.out w1
        have HC : Hid (Calls Try.prog 25 #[.string a] w1 _) := HC
        clear HF HM
        go_wp2_with fail
        refine HC.out.mono ?_
        rintro e w2 ⟨rfl, rfl⟩
        clear HC
        go_wp2
        go_ret
        exact ⟨by rw [HR.out]; rfl, .inr ⟨.inr rfl, k1⟩⟩
      · have hab' : (a.toList == b.toList) = false := by rw [beq_bytes]; exact decide_eq_false hab
        obtain ⟨f, hf, hfn⟩ := h.wf.numF (err_zero he).2
        obtain ⟨g1, g2, g3, g4, g5, g6⟩ := h.wf.gone b
        have hfm : num d a ≠ num d b := fun e => by
          obtain ⟨f2, hf2, hx⟩ := h.wf.numF (s := b) (by rw [← e]; exact (err_zero he).2)
          rw [← e, hf] at hf2
          cases hf2
          exact hab (hfn.symm.trans hx)
        obtain ⟨qa, hqa⟩ := num_some (err_zero he).2
        have hser := g1.serLe b
        have hbz := (may_size hm).2
        have hkk := h.k
        have HFG : Hid ((Sf.gone d b).ino (num d a) = some f ∧ (Sf.gone d b).lab a = some (qa, num d a) ∧ ser (Sf.gone d b) b ≤ K ∧ K ≤ 1000000 ∧ b.size ≤ 4096 ∧ L.ci ≤ K ∧ L.cn ≤ K ∧ Sf.rename d a b = Sf.arrive (Sf.putL (Sf.gone d b) a (ser (Sf.gone d b) a) 0) (num d a) f b ∧ ser (Sf.putL (Sf.gone d b) a (ser (Sf.gone d b) a) 0) b = ser (Sf.gone d b) b) := by
          refine ⟨by rw [g3 _ hfm]; exact hf, by rw [g4 a hab]; exact hqa, hser, hkk, by omega, hc.1, hc.2, by unfold Sf.rename; rw [hf], ?_⟩
          have hba : b ≠ a := fun x => hab x.symm
          simp [ser, Sf.putL, hba]
        have HF2 : Hid (∀ u, Below w.heap.size w u → Calls Try.prog 24 #[.pointer (some ⟨B, 0, none⟩), .string b] u fun e w' => e = .returned (.tuple #[fileV d L b, .int .i64 (err d b : Nat)]) ∧ Below u.heap.size u w') := fun u hu => dsk_file (h.later hu) (hL.later hu) b hb
        have HD : Hid (DkAt P w B d L) := hL
        have ham : a.size ≤ maxLen := ha
        obtain ⟨n, hn⟩ : ∃ n, num d a = n := ⟨_, rfl⟩
        rw [hn] at HF HFG
        rcases (by rcases err_cases d b with x | x | x; exact .inl x; exact .inr x; unfold err at x; rw [hm] at x; by_cases y : num d b = 0 <;> simp [y] at x : err d b = 0 ∨ err d b = 141) with heb | heb
        · obtain ⟨g, hg, hgn⟩ := h.wf.numF (err_zero heb).2
          have hfvb : fileV d L b = .pointer (some ⟨L.ai (num d b), 0, none⟩) := by unfold fileV; rw [if_pos heb]
          rw [hfvb, heb] at HF2
          obtain ⟨qb, hqb⟩ := num_some (err_zero heb).2
          have HGO : Hid (Sf.gone d b = Sf.drop d (num d b) g) := by show _ = _; unfold Sf.gone; rw [if_neg (err_zero heb).2, hg]
          have hnl := h.wf.numLe b
          have hnh := h.wf.hi
          have HDR : Hid (∀ u, DkAt P u B d L → Calls Try.prog 26 #[.pointer (some ⟨B, 0, none⟩), .pointer (some ⟨L.ai (num d b), 0, none⟩)] u fun e w' => e = .returned (.tuple #[]) ∧ DkAt (More P u w') w' B (Sf.drop d (num d b) g) L ∧ FrP P u w') := fun u hu => drop_any hu hg (q := (qb, num d b)) (by rw [hgn]; exact hqb) (by rw [hgn]; exact hb) (by omega)
          obtain ⟨m, hmm⟩ : ∃ m, num d b = m := ⟨_, rfl⟩
          rw [hmm] at HF2 HDR HGO
          have HAB : Hid (a ≠ b) := hab
          clear h hL hc ha hb hfv he hm hab hf hfn g1 g2 g3 g4 g5 g6 hfm hqa hser hbz hkk hn heb hg hgn hfvb hqb hnl hnh hmm
          go_enter Try.func9, Try.ntmps9
          go_wp2_with fail
          refine HF.out.mono ?_
          rintro e w1 ⟨rfl, k1⟩
          have HC := HM.out w1
          have HC : Hid (Calls Try.prog 25 #[.string b] w1 _) := HC
          clear HF HM
          go_wp2_with fail
          refine HC.out.mono ?_
          rintro e w1b ⟨rfl, rfl⟩
          clear HC
          have HC := HF2.out w1b k1
          have HK1 : Hid (Below w.heap.size w w1b) := k1
          have HC : Hid (Calls Try.prog 24 #[.pointer (some ⟨B, 0, none⟩), .string b] w1b _) := HC
          clear HF2 k1
          go_wp2_with fail
          refine HC.out.mono ?_
          rintro e w2 ⟨rfl, k2⟩
          have HK2 : Hid (Below w.heap.size w w2) := below_step HK1.out k2
          clear HC k2 HK1
          have HC := HDR.out w2 (HD.out.later HK2.out)
          have HC : Hid (Calls Try.prog 26 #[.pointer (some ⟨B, 0, none⟩), .pointer (some ⟨L.ai m, 0, none⟩)] w2 _) := HC
          clear HDR
          go_wp2_with fail
          refine HC.out.mono ?_
          rintro e w3 ⟨rfl, h3, f3⟩
          clear HC
          rw [← HGO.out] at h3
          have hp3 : ∀ k, More P w2 w3 k → More P w w3 k := fun k hk => by
            have := HK2.out.size
            rcases hk with hk | hk
            · exact .inl hk
            · exact .inr ⟨by omega, hk.2⟩
          have hq3 : ∀ k, k < w.heap.size → More P w2 w3 k → P k := fun k hk hm => by
            have := HK2.out.size
            rcases hm with hm | hm
            · exact hm
            · omega
          have f3 : FrP P w w3 := (FrP.of_below P HK2.out).trans f3 (fun k _ hq => hq)
          obtain ⟨c0, c1, c2⟩ := h3.cells
          have hlook := h3.look ham
          have e2 : (L.lab (Sf.gone d b) a).getD (.pointer none) = .pointer (some ⟨L.an a, 0, none⟩) := by unfold Lay.lab; rw [HFG.out.2.1]; rfl
          rw [e2] at hlook
          have hlb := h3.lb a _ HFG.out.2.1
          obtain ⟨l0, l1⟩ := hlb.cells
          have q1 := hlb.frozen 1
          obtain ⟨w4, hw4⟩ : ∃ w4, w3.setCell ⟨L.an a, 1, none⟩ (.int .i64 0) = w4 := ⟨_, rfl⟩
          have HR4 := ren_lab h3 HFG.out.2.1
          rw [hw4] at HR4
          have HAR := arrive_any HR4.1 (n := n) (f := f) HFG.out.1 b HFG.out.2.2.2.2.1 (by rw [HFG.out.2.2.2.2.2.2.2.2]; have := HFG.out; omega) (by have := HFG.out; omega)
          have HAR : Hid (Calls Try.prog 27 #[.pointer (some ⟨B, 0, none⟩), .pointer (some ⟨L.ai n, 0, none⟩), .string b] w4 _) := HAR
          have HEND : Hid (∀ w5 L', DkAt (More (More (More P w2 w3) w3 w4) w4 w5) w5 B (Sf.arrive (Sf.putL (Sf.gone d b) a (ser (Sf.gone d b) a) 0) n f b) L' → L'.ci = L.ci → L'.cn ≤ L.cn + 1 → FrP (More (More P w2 w3) w3 w4) w4 w5 → DkTo P w B (Sf.rename d a b) (K + 1) w5) := fun w5 L' a1 a2 a3 a4 => by
            have z3 := f3.size
            have z4 := HR4.2.size
            have z5 := a4.size
            refine ⟨⟨L', ?_, by have := HFG.out; omega, by have := HFG.out; omega⟩, ?_⟩
            · rw [HFG.out.2.2.2.2.2.2.2.1]
              refine a1.mono (fun k hk => ?_) (fun k hk => ?_)
              · rcases hk with (hk | hk) | hk
                · rcases hp3 k hk with x | x
                  · exact .inl x
                  · exact .inr ⟨x.1, by omega⟩
                · exact .inr ⟨by omega, by omega⟩
                · exact .inr ⟨by omega, hk.2⟩
              · rcases hk with hk | hk
                · have := HD.out.low k hk; omega
                · exact hk.2
            · refine (f3.trans HR4.2 (fun k hk hq => ?_)).trans a4 (fun k hk hq => ?_)
              · rcases hq3 k hk hq with hx
                exact hx
              · rcases hq with hq | hq
                · exact hq3 k hk hq
                · omega
          have HW4 : Hid (w3.setCell ⟨L.an a, 1, none⟩ (.int .i64 0) = w4) := hw4
          clear h3 f3 hp3 hq3 hlb e2 hw4 HR4 HD HFG
          go_upto_region 10 with fail
          rw [HW4.out]
          clear HW4 c0 c1 c2 hlook l0 l1 q1
          go_wp2_with fail
          refine HAR.out.mono ?_
          rintro e w5 ⟨rfl, L', a1, a2, a3, a4⟩
          have HP : Hid (DkTo P w B (Sf.rename d a b) (K + 1) w5) := HEND.out w5 L' a1 a2 a3 a4
          clear a1 a2 a3 a4 HAR HEND
          go_wp2
          go_ret
          exact ⟨by rw [HR.out]; rfl, .inl ⟨HR.out, HAB.out, HP.out⟩⟩
        · have hfvb : fileV d L b = .pointer none := by unfold fileV; rw [if_neg (by omega)]
          have hn0 : num d b = 0 := by
            unfold err at heb
            rw [hm] at heb
            refine Classical.byContradiction fun x => ?_
            rw [if_pos rfl, if_neg x] at heb
            omega
          rw [hfvb, heb] at HF2
          have HGO : Hid (Sf.gone d b = d) := by show _ = _; unfold Sf.gone; rw [if_pos hn0]
          have HAB : Hid (a ≠ b) := hab
          clear h hL hc ha hb hfv he hm hab hf hfn g1 g2 g3 g4 g5 g6 hfm hqa hser hbz hkk hn heb hfvb hn0
          go_enter Try.func9, Try.ntmps9
          go_wp2_with fail
          refine HF.out.mono ?_
          rintro e w1 ⟨rfl, k1⟩
          have HC := HM.out w1
          have HC : Hid (Calls Try.prog 25 #[.string b] w1 _) := HC
          clear HF HM
          go_wp2_with fail
          refine HC.out.mono ?_
          rintro e w1b ⟨rfl, rfl⟩
          clear HC
          have HC := HF2.out w1b k1
          have HK1 : Hid (Below w.heap.size w w1b) := k1
          have HC : Hid (Calls Try.prog 24 #[.pointer (some ⟨B, 0, none⟩), .string b] w1b _) := HC
          clear HF2 k1
          go_wp2_with fail
          refine HC.out.mono ?_
          rintro e w2 ⟨rfl, k2⟩
          have HK2 : Hid (Below w.heap.size w w2) := below_step HK1.out k2
          clear HC k2 HK1
          have h3 : DkAt P w2 B (Sf.gone d b) L := by rw [HGO.out]; exact HD.out.later HK2.out
          have hq3 : ∀ k, k < w.heap.size → P k → P k := fun k _ hm => hm
          have f3 : FrP P w w2 := FrP.of_below P HK2.out
          obtain ⟨c0, c1, c2⟩ := h3.cells
          have hlook := h3.look ham
          have e2 : (L.lab (Sf.gone d b) a).getD (.pointer none) = .pointer (some ⟨L.an a, 0, none⟩) := by unfold Lay.lab; rw [HFG.out.2.1]; rfl
          rw [e2] at hlook
          have hlb := h3.lb a _ HFG.out.2.1
          obtain ⟨l0, l1⟩ := hlb.cells
          have q1 := hlb.frozen 1
          obtain ⟨w4, hw4⟩ : ∃ w4, w2.setCell ⟨L.an a, 1, none⟩ (.int .i64 0) = w4 := ⟨_, rfl⟩
          have HR4 := ren_lab h3 HFG.out.2.1
          rw [hw4] at HR4
          have HAR := arrive_any HR4.1 (n := n) (f := f) HFG.out.1 b HFG.out.2.2.2.2.1 (by rw [HFG.out.2.2.2.2.2.2.2.2]; have := HFG.out; omega) (by have := HFG.out; omega)
          have HAR : Hid (Calls Try.prog 27 #[.pointer (some ⟨B, 0, none⟩), .pointer (some ⟨L.ai n, 0, none⟩), .string b] w4 _) := HAR
          have HEND : Hid (∀ w5 L', DkAt (More (More P w2 w4) w4 w5) w5 B (Sf.arrive (Sf.putL (Sf.gone d b) a (ser (Sf.gone d b) a) 0) n f b) L' → L'.ci = L.ci → L'.cn ≤ L.cn + 1 → FrP (More P w2 w4) w4 w5 → DkTo P w B (Sf.rename d a b) (K + 1) w5) := fun w5 L' a1 a2 a3 a4 => by
            have z3 := f3.size
            have z4 := HR4.2.size
            have z5 := a4.size
            refine ⟨⟨L', ?_, by have := HFG.out; omega, by have := HFG.out; omega⟩, ?_⟩
            · rw [HFG.out.2.2.2.2.2.2.2.1]
              refine a1.mono (fun k hk => ?_) (fun k hk => ?_)
              · rcases hk with (hk | hk) | hk
                · exact .inl hk
                · exact .inr ⟨by omega, by omega⟩
                · exact .inr ⟨by omega, hk.2⟩
              · rcases hk with hk | hk
                · have := HD.out.low k hk; omega
                · exact hk.2
            · refine (f3.trans HR4.2 (fun k hk hq => ?_)).trans a4 (fun k hk hq => ?_)
              · rcases hq3 k hk hq with hx
                exact hx
              · rcases hq with hq | hq
                · exact hq3 k hk hq
                · omega
          have HW4 : Hid (w2.setCell ⟨L.an a, 1, none⟩ (.int .i64 0) = w4) := hw4
          clear h3 f3 hq3 hlb e2 hw4 HR4 HD HFG
          go_upto_region 10 with fail
          rw [HW4.out]
          clear HW4 c0 c1 c2 hlook l0 l1 q1
          go_wp2_with fail
          refine HAR.out.mono ?_
          rintro e w5 ⟨rfl, L', a1, a2, a3, a4⟩
          have HP : Hid (DkTo P w B (Sf.rename d a b) (K + 1) w5) := HEND.out w5 L' a1 a2 a3 a4
          clear a1 a2 a3 a4 HAR HEND
          go_wp2
          go_ret
          exact ⟨by rw [HR.out]; rfl, .inl ⟨HR.out, HAB.out, HP.out⟩⟩
  · cases hm : may b with
    | false =>
      have HR : Hid (renE d a b = 140) := by show _ = _; unfold renE; rw [if_pos (.inr hm)]
      have hfv : fileV d L a = .pointer none := by unfold fileV; rw [if_neg (by omega)]
      rw [hfv, he] at HF
      rw [hm] at HM
      clear h hL hc ha hb hfv he hm
      go_enter Try.func9, Try.ntmps9
      go_wp2_with fail
      refine HF.out.mono ?_
      rintro e w1 ⟨rfl, k1⟩
      have HC := HM.out w1
      have HC : Hid (Calls Try.prog 25 #[.string b] w1 _) := HC
      clear HF HM
      go_wp2_with fail
      refine HC.out.mono ?_
      rintro e w2 ⟨rfl, rfl⟩
      clear HC
      go_wp2
      go_ret
      exact ⟨by rw [HR.out]; rfl, .inr ⟨.inl (by rw [HR.out]; omega), k1⟩⟩
    | true =>
      have HR : Hid (renE d a b = 141) := by show _ = _; unfold renE; rw [if_neg (by rw [he, hm]; simp), he]
      have hfv : fileV d L a = .pointer none := by unfold fileV; rw [if_neg (by omega)]
      rw [hfv, he] at HF
      rw [hm] at HM
      clear h hL hc ha hb hfv he hm
      go_enter Try.func9, Try.ntmps9
      go_wp2_with fail
      refine HF.out.mono ?_
      rintro e w1 ⟨rfl, k1⟩
      have HC := HM.out w1
      have HC : Hid (Calls Try.prog 25 #[.string b] w1 _) := HC
      clear HF HM
      go_wp2_with fail
      refine HC.out.mono ?_
      rintro e w2 ⟨rfl, rfl⟩
      clear HC
      go_wp2
      go_ret
      exact ⟨by rw [HR.out]; rfl, .inr ⟨.inl (by rw [HR.out]; omega), k1⟩⟩
  · have HR : Hid (renE d a b = 140) := by show _ = _; unfold renE; rw [if_pos (.inl he)]
    have hfv : fileV d L a = .pointer none := by unfold fileV; rw [if_neg (by omega)]
    rw [hfv, he] at HF
    clear h hL hc ha hb hfv he HM
    go_enter Try.func9, Try.ntmps9
    go_wp2_with fail
    refine HF.out.mono ?_
    rintro e w1 ⟨rfl, k1⟩
    clear HF
    go_wp2
    go_ret
    exact ⟨by rw [HR.out]; rfl, .inr ⟨.inl (by rw [HR.out]; omega), k1⟩⟩
end Go.Proofs.Ytpikepifhnkmkaa
