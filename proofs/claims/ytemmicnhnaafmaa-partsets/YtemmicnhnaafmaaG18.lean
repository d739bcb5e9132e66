/- PartSets. -/
import Derived.Test.YtemmicnhnaafmaaG17
namespace Go.Proofs.Ytemmicnhnaafmaa
open Go.RowKit

theorem ea_take {w : World} {a : Option Addr} {es : List Eg} (h : EA w a es) (m : Nat) : EA w a (es.take m) := by
  rcases h with rfl | ⟨b, off, rfl, _, hc⟩
  · exact .inl (by simp)
  · refine .inr ⟨b, off, rfl, trivial, fun j v hj => hc j v ?_⟩
    have h1 : flatE es = flatE (es.take m) ++ flatE (es.drop m) := by rw [← flatE_append, List.take_append_drop]
    rw [h1, List.getElem?_append_left (List.getElem?_eq_some_iff.1 hj).1]
    exact hj
theorem marks_len {D : List Oct.S} {k q : Nat} (m : Oct.S) (hq : q = D.length) (hk : k ≤ q) : q = (List.replicate k m ++ D.drop k).length := by simp; omega
theorem marks_at {D : List Oct.S} {k q : Nat} (m : Oct.S) (hq : q = D.length) (hk : k < q) : ∃ s, (List.replicate k m ++ D.drop k)[k]? = some s ∧ (List.replicate k m ++ D.drop k).set k m = List.replicate (k + 1) m ++ D.drop (k + 1) := by
  have hkl : k < D.length := by omega
  have hd : D.drop k = D[k] :: D.drop (k + 1) := List.drop_eq_getElem_cons hkl
  refine ⟨D[k], ?_, ?_⟩
  · rw [List.getElem?_append_right (by simp), hd]
    simp
  · rw [List.set_append_right _ _ (by simp), List.length_replicate, Nat.sub_self, hd, List.set_cons_zero, List.replicate_succ', List.append_assoc]
    rfl
theorem over4_mk (w : World) (g k x : Nat) (hx : x < 18446744073709551616) : over4 w g k (mk4 x) = (((w.setCell ⟨g, k * 4, none⟩ (.int .u64 (x : Nat))).setCell ⟨g, k * 4 + 1, none⟩ (.int .u64 (x : Nat))).setCell ⟨g, k * 4 + 2, none⟩ (.int .u64 (x : Nat))).setCell ⟨g, k * 4 + 3, none⟩ (.int .u64 (x : Nat)) := by
  unfold over4
  rw [mk4_0 hx, mk4_1 hx, mk4_2 hx, mk4_3 hx]
theorem slice_addr {a a' : Option Addr} {n c n' c' : Nat} (h : Value.slice a n c = .slice a' n' c') : a = a' := by cases h; rfl
theorem slice_some {a : Option Addr} {n c n' c' g : Nat} (h : Value.slice a n c = .slice (some ⟨g, 0, none⟩) n' c') : a = some ⟨g, 0, none⟩ := by cases h; rfl
/-- the mark -/
def e77 : Eg := ⟨-77, 0, 0, Oct.none⟩
theorem e77_cells : e77.cells = [.int .i64 (-77), .int .i64 0, .int .i64 0, .int .u64 0, .int .u64 0, .int .u64 0, .int .u64 0] := by
  unfold e77 Eg.cells
  rw [show Oct.none = fun _ => false from rfl]
  simp only [Oct.word_none]
  rfl
theorem cell_new7 (w : World) (c : List Value) (t : TypeId) (j : Nat) (v : Value) (h : c[j]? = some v) : (w.alloc (.cells c.toArray t)).cell? ((⟨w.heap.size, 0, none⟩ : Addr).add j) = some v := by
  rw [Go.WideShapes.add_plain, Nat.zero_add]
  have hn := heap_alloc_new w (.cells c.toArray t)
  unfold World.cell?
  rw [hn]
  simpa using h
theorem RowE.at0 {w : World} {B g n c : Nat} {l : List Eg} (h : RowE w B (.slice (some ⟨g, 0, none⟩) n c) l) : EA w (some ⟨g, 0, none⟩) l := (h.at.2).keep (fun _ _ _ => trivial) (fun _ _ _ => rfl)
set_option maxRecDepth 20000 in
set_option maxHeartbeats 16000000 in
theorem sets_law (S : Int) (ea ra : Option Addr) (en0 ec rn rc : Nat) (es0 : List Eg) (w : World) (hen0 : en0 = es0.length) (hec : en0 ≤ ec) (hE0 : EA w ea es0) (ha : en0 = 0 ∨ ∃ b off, ea = some ⟨b, off, none⟩) :
    Calls Try.prog 3 #[.agg #[.int .i64 S, .slice ea en0 ec, .slice ra rn rc]] w fun e w' => e = .returned (.bool true) ∧ Below w.heap.size w w' := by
  have hm0 := mbk_new w S ea ra en0 ec rn rc
  obtain ⟨w1, hw1⟩ : ∃ w1, w.alloc (.cells #[.int .i64 S, .slice ea en0 ec, .slice ra rn rc] 25) = w1 := ⟨_, rfl⟩
  have k1 : Below w.heap.size w w1 := by rw [← hw1]; exact (Below.refl _ _).alloc (Nat.le_refl _) _
  rw [hw1] at hm0
  have HW1 : Hid (w.alloc (.cells #[.int .i64 S, .slice ea en0 ec, .slice ra rn rc] 25) = w1) := hw1
  have HM1 : Hid (MBk w1 w.heap.size S ea en0 ec ra rn rc) := hm0
  have HK1 : Hid (Below w.heap.size w w1) := k1
  have HE0 : Hid (EA w ea es0) := hE0
  have HA : Hid (en0 = 0 ∨ ∃ b off, ea = some ⟨b, off, none⟩) := ha
  obtain ⟨en, hen⟩ : ∃ en, en = min en0 300 := ⟨_, rfl⟩
  obtain ⟨es, hes⟩ : ∃ es, es = es0.take 300 := ⟨_, rfl⟩
  have HN : Hid (en = es.length) := by show _ = _; rw [hes, List.length_take, hen, hen0]; omega
  have HE : Hid (EA w ea es) := by rw [hes]; exact ea_take hE0 300
  have HEN : Hid (en = min en0 300) := hen
  have h300 : en ≤ 300 := by omega
  have henc : en ≤ ec := by omega
  clear hm0 hw1 k1 hE0 ha hen0 hes hen
  go_enter Try.func3, Try.ntmps3
  go_upto_region 1 with fail
  rw [HW1.out]
  clear HW1
  go_wp2_with fail
  refine (known_any w1).mono ?_
  rintro e w2 ⟨rfl, hb2⟩
  have HM2 : Hid (MBk w2 w.heap.size S ea en0 ec ra rn rc) := HM1.out.later hb2
  have HK2 : Hid (Below w.heap.size w w2) := below_trans HK1.out hb2 HK1.out.size
  clear hb2 HM1 HK1
  obtain ⟨m0, m1, m2⟩ := HM2.out.cells
  have f1 := HM2.out.frozen 1
  go_upto_if 18 with fail
  go_cut [20] (fun b wx => Hid (MBk wx w.heap.size S ea en ec ra rn rc) ∧ Hid (Below w.heap.size w wx))
  case first =>
    by_cases hgt : 300 < en0
    · have hgt' : (300 : Int) < (en0 : Int) := by omega
      have hcap : (300 : Int) ≤ (ec : Int) := by omega
      rcases HA.out with h0 | ⟨b, off, rfl⟩
      · omega
      · obtain rfl : en = 300 := by rw [HEN.out]; omega
        have HM3 : Hid (MBk (w2.setCell ⟨w.heap.size, 1, none⟩ (.slice (some ⟨b, off, none⟩) 300 ec)) w.heap.size S (some ⟨b, off, none⟩) 300 ec ra rn rc) := by
          have h := HM2.out
          show (w2.setCell ⟨w.heap.size, 1, none⟩ (.slice (some ⟨b, off, none⟩) 300 ec)).heap[w.heap.size]? = _
          rw [setCell_eq_setRow w2 w.heap.size 1 _ _ _ _ h]
          exact setRow_heap w2 w.heap.size _ _ _ _ h
        have HK3 : Hid (Below w.heap.size w (w2.setCell ⟨w.heap.size, 1, none⟩ (.slice (some ⟨b, off, none⟩) 300 ec))) := HK2.out.setCell (p := ⟨w.heap.size, 1, none⟩) (Nat.le_refl _) _
        go_wp2_with fail
        go_meet
        case rel => exact ⟨HM3, HK3⟩
    · have hgt' : ¬ (300 : Int) < (en0 : Int) := by omega
      obtain rfl : en = en0 := by rw [HEN.out]; omega
      go_wp2_with fail
      go_meet
      case rel => exact ⟨HM2, HK2⟩
  case rest =>
  obtain ⟨HM3, HK3⟩ := hcut
  obtain ⟨w3, hw3⟩ : ∃ w3, w3 = wc := ⟨_, rfl⟩
  subst hw3
  clear m0 m1 m2 f1 HM2 HK2 HE0 HA HEN
  obtain ⟨m0, m1, m2⟩ := HM3.out.cells
  go_wp2_with fail
  refine (rsets_any S ea ra en ec rn rc es w3 HN.out (by omega) (HE.out.later HK3.out)).mono ?_
  rintro e w4 ⟨vw, rfl, ho4, hb4⟩
  have HO4 : Hid (OwnsS w4 w.heap.size vw (dsE es)) := ho4.lower HK3.out.size
  have HM4 : Hid (MBk w4 w.heap.size S ea en ec ra rn rc) := HM3.out.later hb4
  have HK4 : Hid (Below w.heap.size w w4) := below_trans HK3.out hb4 HK3.out.size
  clear ho4 hb4 HM3 HK3 m0 m1 m2
  obtain ⟨m0, m1, m2⟩ := HM4.out.cells
  have HE4 : Hid (EA w4 ea es) := HE.out.later HK4.out
  go_upto_region 8 with (at_builtin; go_must (refine wpList_append_edgesN rfl _ _ rfl rfl w.heap.size en ea ec es HN.out rfl HE4.out (by omega) HK4.out.size ?_; intro v5 w5 hr5 hg5; have HR5 : Hid (RowE w5 w.heap.size v5 es) := hr5; have HG5 : Hid (w4.grownBy w5 none) := hg5; clear hr5 hg5))
  have k5 : Below w4.heap.size w4 w5 := ⟨HG5.out.os, HG5.out.tape, HG5.out.output, HG5.out.size, fun b hb => HG5.out.block b hb (by simp)⟩
  have HO5 : Hid (OwnsS w5 w.heap.size vw (dsE es)) := HO4.out.later k5
  have HM5 : Hid (MBk w5 w.heap.size S ea en ec ra rn rc) := HM4.out.later k5
  have HK5 : Hid (Below w.heap.size w w5) := below_trans HK4.out k5 HK4.out.size
  have k6 : Below w5.heap.size w5 (w5.alloc (.cells #[.int .i64 (-77), .int .i64 0, .int .i64 0, .int .u64 0, .int .u64 0, .int .u64 0, .int .u64 0] 33)) := (Below.refl _ _).alloc (Nat.le_refl _) _
  have HR6 : Hid (RowE (w5.alloc (.cells #[.int .i64 (-77), .int .i64 0, .int .i64 0, .int .u64 0, .int .u64 0, .int .u64 0, .int .u64 0] 33)) w.heap.size v5 es) := HR5.out.later k6
  have HO6 : Hid (OwnsS (w5.alloc (.cells #[.int .i64 (-77), .int .i64 0, .int .i64 0, .int .u64 0, .int .u64 0, .int .u64 0, .int .u64 0] 33)) w.heap.size vw (dsE es)) := HO5.out.later k6
  have HM6 : Hid (MBk (w5.alloc (.cells #[.int .i64 (-77), .int .i64 0, .int .i64 0, .int .u64 0, .int .u64 0, .int .u64 0, .int .u64 0] 33)) w.heap.size S ea en ec ra rn rc) := HM5.out.later k6
  have HK6 : Hid (Below w.heap.size w (w5.alloc (.cells #[.int .i64 (-77), .int .i64 0, .int .i64 0, .int .u64 0, .int .u64 0, .int .u64 0, .int .u64 0] 33))) := below_trans HK5.out k6 HK5.out.size
  have HC6 : Hid (∀ j v, e77.cells[j]? = some v → (w5.alloc (.cells #[.int .i64 (-77), .int .i64 0, .int .i64 0, .int .u64 0, .int .u64 0, .int .u64 0, .int .u64 0] 33)).cell? ((⟨w5.heap.size, 0, none⟩ : Addr).add j) = some v) := fun j v h => by
    rw [e77_cells] at h
    exact cell_new7 w5 _ _ j v h
  clear k5 k6 HO4 HM4 HK4 HE4 HR5 HG5 HO5 HM5 HK5 m0 m1 m2
  go_upto_region 9 with (at_builtin; go_must (refine wpList_append_edge rfl _ _ rfl w.heap.size en v5 es rfl HN.out.symm HR6.out ⟨w5.heap.size, 0, none⟩ 1 e77 rfl HC6.out (by omega) HK6.out.size ?_; intro gE cE w7 hr7 hg7; have HR7 : Hid (RowE w7 w.heap.size (.slice (some ⟨gE, 0, none⟩) (en + 1) cE) (es ++ [e77])) := hr7; have HG7 : Hid ((w5.alloc (.cells #[.int .i64 (-77), .int .i64 0, .int .i64 0, .int .u64 0, .int .u64 0, .int .u64 0, .int .u64 0] 33)).grownBy w7 v5.ownBlock) := hg7; clear hr7 hg7))
  have hneE : ∀ {b : Nat} {t : TypeId}, TyB (w5.alloc (.cells #[.int .i64 (-77), .int .i64 0, .int .i64 0, .int .u64 0, .int .u64 0, .int .u64 0, .int .u64 0] 33)) t b → t ≠ 33 → some b ≠ v5.ownBlock := fun hb ht e => ht (TyB.one hb (HR6.out.ty _ e.symm).2)
  have HO7 : Hid (OwnsS w7 w.heap.size vw (dsE es)) := HO6.out.keepV (fun b hb => by
    have ht := (HO6.out.ty b hb).2
    obtain ⟨c', z', e'⟩ := ht
    exact HG7.out.block b (Array.getElem?_eq_some_iff.1 e').1 (hneE ⟨c', z', e'⟩ (by decide)))
  have HM7 : Hid (MBk w7 w.heap.size S ea en ec ra rn rc) := HM6.out.same (HG7.out.block _ HM6.out.lt (hneE ⟨_, _, HM6.out⟩ (by decide)))
  have HK7 : Hid (Below w.heap.size w w7) := HK6.out.grown HG7.out HK6.out.size (fun b e => (HR6.out.ty b e).1)
  clear hneE HR6 HO6 HM6 HK6 HC6 HG7
  obtain ⟨m0, m1, m2⟩ := HM7.out.cells
  obtain ⟨_, cq, hcq1, hcq2, _⟩ := HR7.out.form
  have hcq3 : cq = cE := by injection hcq1 with _ _ h3; exact h3.symm
  have hcE : ((en : Nat) : Int) ≤ (cE : Int) := by rw [List.length_append, ← HN.out, hcq3] at hcq2; simp at hcq2; omega
  have hcE2 : en ≤ cE := by omega
  clear hcq1 hcq2 hcq3
  refine reg9 (M := w.heap.size) rfl rfl rfl HM7.out hcE2 ?_
  simp only [Act.put, V9]
  have HP8 : Hid (Pq w (w7.drew.alloc (.cells #[.int .i64 S, .slice (some ⟨gE, 0, none⟩) en cE, .slice ra rn rc] 25)) w.heap.size w.heap.size w7.heap.size gE cE en S ea ra ec rn rc (es ++ [e77]) vw (.slice none 0 0) (.slice none 0 0) (.slice none 0 0) (dsE es) [] [] []) := by
    have kd : Below w7.heap.size w7 (w7.drew.alloc (.cells #[.int .i64 S, .slice (some ⟨gE, 0, none⟩) en cE, .slice ra rn rc] 25)) := (Below.refl w7.heap.size w7).drew.alloc (Nat.le_refl _) _
    exact ⟨HM7.out.later kd, mbk_new w7.drew S (some ⟨gE, 0, none⟩) ra en cE rn rc, HR7.out.later kd, HO7.out.later kd, ownsS_nil _ _, ownsS_nil _ _, ownsS_nil _ _, sep_nil _, sep_nil _, sep_nil _, sep_nil _, sep_nil _, sep_nil _, below_trans HK7.out kd HK7.out.size, Nat.le_refl _⟩
  clear HM7 HR7 HO7 HK7 m0 m1 m2
  obtain ⟨w8, hw8⟩ : ∃ w8, w7.drew.alloc (.cells #[.int .i64 S, .slice (some ⟨gE, 0, none⟩) en cE, .slice ra rn rc] 25) = w8 := ⟨_, rfl⟩
  obtain ⟨O, hO⟩ : ∃ O, w7.heap.size = O := ⟨_, rfl⟩
  rw [hw8, hO] at HP8
  rw [hw8, hO]
  clear hw8 hO
  have HTK : Hid ((es ++ [e77]).take en = es) := by show _ = _; rw [HN.out, List.take_left]
  have HEA : Hid (∀ u, EA u (some ⟨gE, 0, none⟩) (es ++ [e77]) → EA u (some ⟨gE, 0, none⟩) es) := fun u h => by
    have h2 := ea_take h en
    rw [HTK.out] at h2
    exact h2
  obtain ⟨m0, m1, m2⟩ := HP8.out.own.cells
  go_wp2_with fail
  refine (psets_any S (some ⟨gE, 0, none⟩) ra en cE rn rc es w8 HN.out (by omega) (HEA.out _ HP8.out.edges.at0)).mono ?_
  rintro e w9 ⟨va, rfl, ho9, hb9⟩
  have HP9 : Hid (Pq w w9 w.heap.size w.heap.size O gE cE en S ea ra ec rn rc (es ++ [e77]) vw va (.slice none 0 0) (.slice none 0 0) (dsE es) (dsE es) [] []) := by
    have h := HP8.out.later hb9
    have hsz : w.heap.size ≤ w8.heap.size := HP8.out.low.size
    exact ⟨h.mach, h.own, h.edges, h.rw_, ho9.lower hsz, h.rb_, h.rc_, sep_new HP8.out.rw_ ho9 (Nat.le_refl _), h.wb, h.wc, sep_nil _, sep_nil _, h.bc, h.low, h.sz⟩
  clear ho9 hb9 HP8 m0 m1 m2
  obtain ⟨m0, m1, m2⟩ := HP9.out.own.cells
  go_wp2_with fail
  refine (psets_any S (some ⟨gE, 0, none⟩) ra en cE rn rc es w9 HN.out (by omega) (HEA.out _ HP9.out.edges.at0)).mono ?_
  rintro e w10 ⟨vb, rfl, ho10, hb10⟩
  have HP10 : Hid (Pq w w10 w.heap.size w.heap.size O gE cE en S ea ra ec rn rc (es ++ [e77]) vw va vb (.slice none 0 0) (dsE es) (dsE es) (dsE es) []) := by
    have h := HP9.out.later hb10
    have hsz : w.heap.size ≤ w9.heap.size := HP9.out.low.size
    exact ⟨h.mach, h.own, h.edges, h.rw_, h.ra_, ho10.lower hsz, h.rc_, h.wa, sep_new HP9.out.rw_ ho10 (Nat.le_refl _), h.wc, sep_new HP9.out.ra_ ho10 (Nat.le_refl _), h.ac, sep_nil _, h.low, h.sz⟩
  clear ho10 hb10 HP9 m0 m1 m2
  have hdl := dsE_le es
  rw [← HN.out] at hdl
  obtain ⟨aw, cw, ew, haw, hcw⟩ := HP10.out.rw_.at2
  obtain ⟨aa, ca, ea', haa, hca⟩ := HP10.out.ra_.at2
  obtain ⟨ab, cb, eb, hab, hcb⟩ := HP10.out.rb_.at2
  subst ew ea' eb
  have HAW : Hid (SetsAt w10 aw (dsE es)) := haw
  have HAA : Hid (SetsAt w10 aa (dsE es)) := haa
  have HAB : Hid (SetsAt w10 ab (dsE es)) := hab
  have HDL : Hid ((dsE es).length ≤ 300) := by show _ ≤ _; omega
  obtain ⟨q, hq⟩ : ∃ q, q = (dsE es).length := ⟨_, rfl⟩
  rw [← hq] at HP10 HDL hcw hca hcb ⊢
  have HQ : Hid (q = (dsE es).length) := hq
  have hq300 : q ≤ 300 := HDL.out
  clear hq hdl haw haa hab HDL
  obtain ⟨D, hD⟩ : ∃ D, D = dsE es := ⟨_, rfl⟩
  rw [← hD] at HP10 HAW HAA HAB HQ
  have HDD : Hid (D = dsE es) := hD
  clear hD
  go_wp2_with fail
  refine (sameSets_any aa aw q ca cw D w10 HQ.out (by omega) HAA.out HAW.out).mono ?_
  rintro e w11 ⟨rfl, hb11⟩
  have HP11 : Hid (Pq w w11 w.heap.size w.heap.size O gE cE en S ea ra ec rn rc (es ++ [e77]) (.slice aw q cw) (.slice aa q ca) (.slice ab q cb) (.slice none 0 0) D D D []) := HP10.out.later hb11
  have HAB11 : Hid (SetsAt w11 ab D ∧ SetsAt w11 aw D) := ⟨setsAt_later hb11 HAB.out, setsAt_later hb11 HAW.out⟩
  clear hb11 HP10
  go_wp2_with fail
  refine (sameSets_any ab aw q cb cw D w11 HQ.out (by omega) HAB11.out.1 HAB11.out.2).mono ?_
  rintro e w12 ⟨rfl, hb12⟩
  have HP12 : Hid (Pq w w12 w.heap.size w.heap.size O gE cE en S ea ra ec rn rc (es ++ [e77]) (.slice aw q cw) (.slice aa q ca) (.slice ab q cb) (.slice none 0 0) D D D []) := HP11.out.later hb12
  clear hb12 HP11 HAB11 HAW HAA HAB
  obtain ⟨m0, m1, m2⟩ := HP12.out.mach.cells
  obtain ⟨_, _, ee, k0, _⟩ := HP12.out.edges.at0.nth (i := en) (e := e77) (by rw [HN.out]; simp)
  cases ee
  have k0' : w12.cell? ⟨gE, en * 7, none⟩ = some (.int .i64 (-77)) := by
    have h := k0
    rw [Nat.zero_add] at h
    exact h
  have hen1 : (en : Int) < ((en + 1 : Nat) : Int) := by omega
  clear k0
  go_wp2_with fail
  clear m0 m1 m2 k0' hen1
  go_loopw [70] (fun i u => ∃ k : Nat, k ≤ en ∧ i = .int .i64 (k : Nat) ∧ Hid (Pq w u w.heap.size w.heap.size O gE cE en S ea ra ec rn rc (es ++ [e77]) (.slice aw q cw) (.slice aa q ca) (.slice ab q cb) (.slice none 0 0) D D D [])) (fun i _ => en - (intOf i).toNat)
  case atStart => exact ⟨0, Nat.zero_le _, rfl, HP12⟩
  case round =>
    clear HP12
    obtain ⟨k, hk, rfl, HP⟩ := hrel
    by_cases hlt : k < en
    · have hlt' : (k : Int) < (en : Int) := by omega
      have hlt2 : (k : Int) < ((en + 1 : Nat) : Int) := by omega
      obtain ⟨e, he⟩ : ∃ e, es[k]? = some e := ⟨_, List.getElem?_eq_getElem (by rw [← HN.out]; exact hlt)⟩
      have HEK : Hid (es[k]? = some e) := he
      obtain ⟨g, off, rfl, _⟩ := HE.out.nth he
      clear he
      have hne : Nonempty (Later wr) := ⟨⟨wr, Below.refl _ _⟩⟩
      have mm : ∀ u : Later wr, u.at_.cell? ⟨w.heap.size, 1, none⟩ = some (.slice (some ⟨g, off, none⟩) en ec) := fun u => ((HP.out.later u.below).mach).cells.2.1
      have c0 : ∀ u : Later wr, u.at_.cell? ⟨gE, k * 7, none⟩ = some (.int .i64 e.k) := fun u => by
        obtain ⟨_, _, ee, h0, _, _, _, _, _, _⟩ := ((HP.out.later u.below).edges.at0).nth (i := k) (e := e) (by rw [List.getElem?_append_left (by rw [← HN.out]; exact hlt)]; exact HEK.out)
        cases ee
        rw [Nat.zero_add] at h0
        exact h0
      have c1 : ∀ u : Later wr, u.at_.cell? ⟨gE, k * 7 + 1, none⟩ = some (.int .i64 e.f) := fun u => by
        obtain ⟨_, _, ee, _, h0, _, _, _, _, _⟩ := ((HP.out.later u.below).edges.at0).nth (i := k) (e := e) (by rw [List.getElem?_append_left (by rw [← HN.out]; exact hlt)]; exact HEK.out)
        cases ee
        rw [Nat.zero_add] at h0
        exact h0
      have c2 : ∀ u : Later wr, u.at_.cell? ⟨gE, k * 7 + 2, none⟩ = some (.int .i64 e.t) := fun u => by
        obtain ⟨_, _, ee, _, _, h0, _, _, _, _⟩ := ((HP.out.later u.below).edges.at0).nth (i := k) (e := e) (by rw [List.getElem?_append_left (by rw [← HN.out]; exact hlt)]; exact HEK.out)
        cases ee
        rw [Nat.zero_add] at h0
        exact h0
      have c3 : ∀ u : Later wr, u.at_.cell? ⟨gE, k * 7 + 3, none⟩ = some (.int .u64 (Oct.word e.s 0 : Nat)) := fun u => by
        obtain ⟨_, _, ee, _, _, _, h0, _, _, _⟩ := ((HP.out.later u.below).edges.at0).nth (i := k) (e := e) (by rw [List.getElem?_append_left (by rw [← HN.out]; exact hlt)]; exact HEK.out)
        cases ee
        rw [Nat.zero_add] at h0
        exact h0
      have c4 : ∀ u : Later wr, u.at_.cell? ⟨gE, k * 7 + 4, none⟩ = some (.int .u64 (Oct.word e.s 1 : Nat)) := fun u => by
        obtain ⟨_, _, ee, _, _, _, _, h0, _, _⟩ := ((HP.out.later u.below).edges.at0).nth (i := k) (e := e) (by rw [List.getElem?_append_left (by rw [← HN.out]; exact hlt)]; exact HEK.out)
        cases ee
        rw [Nat.zero_add] at h0
        exact h0
      have c5 : ∀ u : Later wr, u.at_.cell? ⟨gE, k * 7 + 5, none⟩ = some (.int .u64 (Oct.word e.s 2 : Nat)) := fun u => by
        obtain ⟨_, _, ee, _, _, _, _, _, h0, _⟩ := ((HP.out.later u.below).edges.at0).nth (i := k) (e := e) (by rw [List.getElem?_append_left (by rw [← HN.out]; exact hlt)]; exact HEK.out)
        cases ee
        rw [Nat.zero_add] at h0
        exact h0
      have c6 : ∀ u : Later wr, u.at_.cell? ⟨gE, k * 7 + 6, none⟩ = some (.int .u64 (Oct.word e.s 3 : Nat)) := fun u => by
        obtain ⟨_, _, ee, _, _, _, _, _, _, h0⟩ := ((HP.out.later u.below).edges.at0).nth (i := k) (e := e) (by rw [List.getElem?_append_left (by rw [← HN.out]; exact hlt)]; exact HEK.out)
        cases ee
        rw [Nat.zero_add] at h0
        exact h0
      have d0 : ∀ u : Later wr, u.at_.cell? ⟨g, off + k * 7, none⟩ = some (.int .i64 e.k) := fun u => by
        obtain ⟨_, _, ee, h0, _, _, _, _, _, _⟩ := (HE.out.later (HP.out.later u.below).low).nth HEK.out
        cases ee
        exact h0
      have d1 : ∀ u : Later wr, u.at_.cell? ⟨g, off + k * 7 + 1, none⟩ = some (.int .i64 e.f) := fun u => by
        obtain ⟨_, _, ee, _, h0, _, _, _, _, _⟩ := (HE.out.later (HP.out.later u.below).low).nth HEK.out
        cases ee
        exact h0
      have d2 : ∀ u : Later wr, u.at_.cell? ⟨g, off + k * 7 + 2, none⟩ = some (.int .i64 e.t) := fun u => by
        obtain ⟨_, _, ee, _, _, h0, _, _, _, _⟩ := (HE.out.later (HP.out.later u.below).low).nth HEK.out
        cases ee
        exact h0
      have d3 : ∀ u : Later wr, u.at_.cell? ⟨g, off + k * 7 + 3, none⟩ = some (.int .u64 (Oct.word e.s 0 : Nat)) := fun u => by
        obtain ⟨_, _, ee, _, _, _, h0, _, _, _⟩ := (HE.out.later (HP.out.later u.below).low).nth HEK.out
        cases ee
        exact h0
      have d4 : ∀ u : Later wr, u.at_.cell? ⟨g, off + k * 7 + 4, none⟩ = some (.int .u64 (Oct.word e.s 1 : Nat)) := fun u => by
        obtain ⟨_, _, ee, _, _, _, _, h0, _, _⟩ := (HE.out.later (HP.out.later u.below).low).nth HEK.out
        cases ee
        exact h0
      have d5 : ∀ u : Later wr, u.at_.cell? ⟨g, off + k * 7 + 5, none⟩ = some (.int .u64 (Oct.word e.s 2 : Nat)) := fun u => by
        obtain ⟨_, _, ee, _, _, _, _, _, h0, _⟩ := (HE.out.later (HP.out.later u.below).low).nth HEK.out
        cases ee
        exact h0
      have d6 : ∀ u : Later wr, u.at_.cell? ⟨g, off + k * 7 + 6, none⟩ = some (.int .u64 (Oct.word e.s 3 : Nat)) := fun u => by
        obtain ⟨_, _, ee, _, _, _, _, _, _, h0⟩ := (HE.out.later (HP.out.later u.below).low).nth HEK.out
        cases ee
        exact h0
      have eq := eq7_same
      go_upto_region 17 with fail
      go_cut [82] from 73 to 82 (fun b wx => b = .bool false ∧ Hid (Below wr.heap.size wr wx))
      case first =>
        refine wp_region_later (by kernel_rfl) (by kernel_rfl) ?_
        repeat (first
          | go_big_quiet_step (fail)
          | quiet_step (fail))
        refine wpQuiet_nil ?_
        intro _ hw'
        obtain ⟨u, hw''⟩ := hw'
        subst hw''
        go_wp2_with fail
        go_meet
        case rel => exact ⟨rfl, u.below⟩
      case rest =>
      obtain ⟨rfl, kk⟩ := hcut
      have HP2 : Hid (Pq w wc w.heap.size w.heap.size O gE cE en S (some ⟨g, off, none⟩) ra ec rn rc (es ++ [e77]) (.slice aw q cw) (.slice aa q ca) (.slice ab q cb) (.slice none 0 0) D D D []) := HP.out.later kk.out
      clear c0 c1 c2 c3 c4 c5 c6 d0 d1 d2 d3 d4 d5 d6 mm eq hne kk HP
      go_wp2
      go_roundw
      case rel => exact ⟨k + 1, by omega, by go_num, HP2⟩
      case measure => simp [intOf]; omega
    · have hge : ¬ (k : Int) < (en : Int) := by omega
      have HP0 : Hid (Pq w wr w.heap.size w.heap.size O gE cE en S ea ra ec rn rc (es ++ [e77]) (.slice aw q cw) (.slice aa q ca) (.slice ab q cb) (.slice none 0 0) D (List.replicate 0 (mk4 5) ++ D.drop 0) D []) := HP
      clear HP
      go_wp2_with fail
      go_loopw [86] (fun i u => ∃ k : Nat, k ≤ q ∧ i = .int .i64 (k : Nat) ∧ Hid (Pq w u w.heap.size w.heap.size O gE cE en S ea ra ec rn rc (es ++ [e77]) (.slice aw q cw) (.slice aa q ca) (.slice ab q cb) (.slice none 0 0) D (List.replicate k (mk4 5) ++ D.drop k) D [])) (fun i _ => q - (intOf i).toNat)
      case atStart => exact ⟨0, Nat.zero_le _, rfl, HP0⟩
      case round =>
        clear HP0
        obtain ⟨k, hk, rfl, HP⟩ := hrel
        by_cases hlt : k < q
        · have hlt' : (k : Int) < (q : Int) := by omega
          obtain ⟨s, hs1, hs2⟩ := marks_at (mk4 5) HQ.out hlt
          have hml := marks_len (mk4 5) HQ.out (Nat.le_of_lt hlt)
          obtain ⟨g, c', eg, _⟩ := HP.out.ra_.form (fun e => by rw [e] at hs1; simp at hs1)
          obtain rfl := slice_some eg
          clear eg
          obtain ⟨p0, p1, p2, p3⟩ := HP.out.ra_.cells hml hs1
          have f0 := HP.out.ra_.frozen hml (k * 4)
          have f1 := HP.out.ra_.frozen hml (k * 4 + 1)
          have f2 := HP.out.ra_.frozen hml (k * 4 + 2)
          have f3 := HP.out.ra_.frozen hml (k * 4 + 3)
          have HP2 : Hid (Pq w ((((wr.setCell ⟨g, k * 4, none⟩ (.int .u64 5)).setCell ⟨g, k * 4 + 1, none⟩ (.int .u64 5)).setCell ⟨g, k * 4 + 2, none⟩ (.int .u64 5)).setCell ⟨g, k * 4 + 3, none⟩ (.int .u64 5)) w.heap.size w.heap.size O gE cE en S ea ra ec rn rc (es ++ [e77]) (.slice aw q cw) (.slice (some ⟨g, 0, none⟩) q ca) (.slice ab q cb) (.slice none 0 0) D (List.replicate (k + 1) (mk4 5) ++ D.drop (k + 1)) D []) := by
            have h := HP.out.overA hml hs1 (mk4 5)
            rw [hs2, over4_mk _ _ _ _ (by decide)] at h
            exact h
          clear hs1 hs2 hml HP
          go_wp2
          go_roundw
          case rel => exact ⟨k + 1, by omega, by go_num, HP2⟩
          case measure => simp [intOf]; omega
          
        · have hge : ¬ (k : Int) < (q : Int) := by omega
          have hkq : k = q := by omega
          have HP1 : Hid (Pq w wr w.heap.size w.heap.size O gE cE en S ea ra ec rn rc (es ++ [e77]) (.slice aw q cw) (.slice aa q ca) (.slice ab q cb) (.slice none 0 0) D (List.replicate q (mk4 5)) D []) := by
            have h := HP.out
            rw [hkq, List.drop_eq_nil_of_le (by rw [← HQ.out]; exact Nat.le_refl _), List.append_nil] at h
            exact h
          clear HP hkq
          have HS1 : Hid (SetsAt wr ab D ∧ SetsAt wr aw D) := by
            obtain ⟨a1, c1, e1, h1, _⟩ := HP1.out.rb_.at2
            obtain ⟨a2, c2, e2, h2, _⟩ := HP1.out.rw_.at2
            cases e1
            cases e2
            exact ⟨h1, h2⟩
          go_wp2_with fail
          refine (sameSets_any ab aw q cb cw D wr HQ.out (by omega) HS1.out.1 HS1.out.2).mono ?_
          rintro e w13 ⟨rfl, hb13⟩
          have HP3 : Hid (∃ el : List Eg, el.length = en + 1 ∧ Pq w w13 w.heap.size w.heap.size O gE cE en S ea ra ec rn rc el (.slice aw q cw) (.slice aa q ca) (.slice ab q cb) (.slice none 0 0) D (List.replicate q (mk4 5)) D []) := ⟨_, by rw [List.length_append, ← HN.out]; rfl, HP1.out.later hb13⟩
          clear hb13 HP1 HS1
          go_wp2_with fail
          go_loopw [100] (fun i u => ∃ k : Nat, k ≤ en + 1 ∧ i = .int .i64 (k : Nat) ∧ Hid (∃ el : List Eg, el.length = en + 1 ∧ Pq w u w.heap.size w.heap.size O gE cE en S ea ra ec rn rc el (.slice aw q cw) (.slice aa q ca) (.slice ab q cb) (.slice none 0 0) D (List.replicate q (mk4 5)) D [])) (fun i _ => en + 1 - (intOf i).toNat)
          case atStart => exact ⟨0, Nat.zero_le _, rfl, HP3⟩
          case round =>
            clear HP3
            obtain ⟨k, hk, rfl, HPE⟩ := hrel
            by_cases hlt : k < en + 1
            · have hlt' : (k : Int) < ((en + 1 : Nat) : Int) := by omega
              have hlt2 : (k : Int) < (en : Int) + 1 := by omega
              obtain ⟨el, hel, hp⟩ := HPE.out
              obtain ⟨e, he⟩ : ∃ e, el[k]? = some e := ⟨_, List.getElem?_eq_getElem (by omega)⟩
              obtain ⟨ek, ef, et, t⟩ := e
              obtain ⟨_, _, ee, c0, c1, c2, c3, c4, c5, c6⟩ := hp.edges.at0.nth he
              cases ee
              simp only [Nat.zero_add] at c0 c1 c2 c3 c4 c5 c6
              have f5 := hp.edges.frozen (k * 7 + 5)
              obtain ⟨t2, ht2⟩ : ∃ t2, t2 = Oct.ofWords (Oct.word t 0) (Oct.word t 1) (Oct.word t 2 ^^^ 255) (Oct.word t 3) := ⟨_, rfl⟩
              have a0 : Oct.word t2 0 = Oct.word t 0 := by rw [ht2]; exact (Oct.ofWords0 _ _ _ _ (Oct.word_lt t 0)).symm
              have a1 : Oct.word t2 1 = Oct.word t 1 := by rw [ht2]; exact (Oct.ofWords1 _ _ _ _ (Oct.word_lt t 1)).symm
              have a2 : Oct.word t2 2 = Oct.word t 2 ^^^ 255 := by rw [ht2]; exact (Oct.ofWords2 _ _ _ _ (Nat.xor_lt_two_pow (n := 64) (Oct.word_lt t 2) (by decide))).symm
              have a3 : Oct.word t2 3 = Oct.word t 3 := by rw [ht2]; exact (Oct.ofWords3 _ _ _ _ (Oct.word_lt t 3)).symm
              have hx : bits .xor .u64 (Oct.word t 2 : Nat) 255 = (Oct.word t2 2 : Nat) := by
                rw [a2, show (255 : Int) = ((255 : Nat) : Int) from rfl, u64_xor_nat _ _ (Oct.word_lt t 2) (by decide)]
              have hp2 := hp.edge (k := k) (j := 5) (s := ⟨ek, ef, et, t⟩) (t := ⟨ek, ef, et, t2⟩) (x := .int .u64 (Oct.word t2 2 : Nat)) he (by decide) rfl (fun i h7 hne => by
                have h3 : i = 0 ∨ i = 1 ∨ i = 2 ∨ i = 3 ∨ i = 4 ∨ i = 6 := by omega
                rcases h3 with rfl | rfl | rfl | rfl | rfl | rfl <;> simp [Eg.cells, a0, a1, a3])
              rw [← hx, show 7 * k + 5 = k * 7 + 5 by omega] at hp2
              have HP4 : Hid (Pq w (wr.setCell ⟨gE, k * 7 + 5, none⟩ (.int .u64 (bits .xor .u64 (Oct.word t 2 : Nat) 255))).drew w.heap.size w.heap.size O gE cE en S ea ra ec rn rc (el.set k ⟨ek, ef, et, t2⟩) (.slice aw q cw) (.slice aa q ca) (.slice ab q cb) (.slice none 0 0) D (List.replicate q (mk4 5)) D []) := hp2.later (Below.refl _ _).drew
              have HEL : Hid (el.length = en + 1) := hel
              clear hp hp2 hx a0 a1 a2 a3 ht2 he hel HPE
              go_upto_region 30 with fail
              go_region_with (fail)
              obtain ⟨w14, hw14⟩ : ∃ w14, w14 = (wr.setCell ⟨gE, k * 7 + 3 + 2, none⟩ (.int .u64 (bits .xor .u64 (Oct.word t 2 : Nat) 255))).drew := ⟨_, rfl⟩
              have HP5 : Hid (Pq w w14 w.heap.size w.heap.size O gE cE en S ea ra ec rn rc (el.set k ⟨ek, ef, et, t2⟩) (.slice aw q cw) (.slice aa q ca) (.slice ab q cb) (.slice none 0 0) D (List.replicate q (mk4 5)) D []) := by rw [hw14]; exact HP4
              rw [← hw14]
              clear hw14 HP4 c0 c1 c2 c3 c4 c5 c6 f5
              have he2 : (el.set k ⟨ek, ef, et, t2⟩)[k]? = some ⟨ek, ef, et, t2⟩ := by rw [List.getElem?_set_self (by rw [HEL.out]; exact hlt)]
              obtain ⟨_, _, ee, c0, _⟩ := HP5.out.edges.at0.nth he2
              cases ee
              simp only [Nat.zero_add] at c0
              have f0 := HP5.out.edges.frozen (k * 7)
              have HPX : Hid (∀ x : Int, Pq w (w14.setCell ⟨gE, k * 7, none⟩ (.int .i64 x)) w.heap.size w.heap.size O gE cE en S ea ra ec rn rc ((el.set k ⟨ek, ef, et, t2⟩).set k ⟨x, ef, et, t2⟩) (.slice aw q cw) (.slice aa q ca) (.slice ab q cb) (.slice none 0 0) D (List.replicate q (mk4 5)) D []) := fun x => by
                have h := HP5.out.edge (k := k) (j := 0) (s := ⟨ek, ef, et, t2⟩) (t := ⟨x, ef, et, t2⟩) (x := .int .i64 x) he2 (by decide) rfl (fun i h7 hne => by
                  have h3 : i = 1 ∨ i = 2 ∨ i = 3 ∨ i = 4 ∨ i = 5 ∨ i = 6 := by omega
                  rcases h3 with rfl | rfl | rfl | rfl | rfl | rfl <;> rfl)
                rw [show 7 * k + 0 = k * 7 by omega] at h
                exact h
              clear he2 HP5
              go_wp2
              go_roundw
              case rel => exact ⟨k + 1, by omega, by go_num, ⟨_, by rw [List.length_set, List.length_set]; exact HEL.out, HPX.out _⟩⟩
              case measure => simp [intOf]; omega
            · have hge2 : ¬ (k : Int) < ((en + 1 : Nat) : Int) := by omega
              have hge3 : ¬ (k : Int) < (en : Int) + 1 := by omega
              obtain ⟨el, hel, hp⟩ := HPE.out
              have HP5 : Hid (Pq w wr w.heap.size w.heap.size O gE cE en S ea ra ec rn rc el (.slice aw q cw) (.slice aa q ca) (.slice ab q cb) (.slice none 0 0) D (List.replicate q (mk4 5)) D []) := hp
              have HEL : Hid (el.length = en + 1) := hel
              clear hp hel HPE
              have HGN : Hid (en = (el.take en).length) := by show _ = _; rw [List.length_take, HEL.out]; omega
              have HGE : Hid (∀ u, EA u (some ⟨gE, 0, none⟩) el → EA u (some ⟨gE, 0, none⟩) (el.take en)) := fun u h => ea_take h en
              obtain ⟨m0, m1, m2⟩ := HP5.out.own.cells
              go_wp2_with fail
              refine (psets_any S (some ⟨gE, 0, none⟩) ra en cE rn rc (el.take en) wr HGN.out (by omega) (HGE.out _ HP5.out.edges.at0)).mono ?_
              rintro e w15 ⟨vc, rfl, ho15, hb15⟩
              have hgl := dsE_le (el.take en)
              rw [← HGN.out] at hgl
              obtain ⟨G, hG⟩ : ∃ G, G = dsE (el.take en) := ⟨_, rfl⟩
              rw [← hG] at ho15 hgl
              have HG : Hid (G = dsE (el.take en)) := hG
              have HP6 : Hid (Pq w w15 w.heap.size w.heap.size O gE cE en S ea ra ec rn rc el (.slice aw q cw) (.slice aa q ca) (.slice ab q cb) vc D (List.replicate q (mk4 5)) D G) := by
                have h := HP5.out.later hb15
                have hsz : w.heap.size ≤ wr.heap.size := HP5.out.low.size
                exact ⟨h.mach, h.own, h.edges, h.rw_, h.ra_, h.rb_, ho15.lower hsz, h.wa, h.wb, sep_new HP5.out.rw_ ho15 (Nat.le_refl _), h.ab, sep_new HP5.out.ra_ ho15 (Nat.le_refl _), sep_new HP5.out.rb_ ho15 (Nat.le_refl _), h.low, h.sz⟩
              clear ho15 hb15 HP5 m0 m1 m2 hG
              obtain ⟨ac, cc, ec', hac, hcc⟩ := HP6.out.rc_.at2
              subst ec'
              obtain ⟨r, hr⟩ : ∃ r, r = G.length := ⟨_, rfl⟩
              rw [← hr] at HP6 hgl hcc ⊢
              have HR : Hid (r = G.length) := hr
              have HAC : Hid (SetsAt w15 ac G) := hac
              clear hr hac
              obtain ⟨m0, m1, m2⟩ := HP6.out.own.cells
              go_wp2_with fail
              refine (rsets_any S (some ⟨gE, 0, none⟩) ra en cE rn rc (el.take en) w15 HGN.out (by omega) (HGE.out _ HP6.out.edges.at0)).mono ?_
              rintro e w16 ⟨vt, rfl, ho16, hb16⟩
              rw [← HG.out] at ho16
              obtain ⟨at_, ct, et', hat, _⟩ := ho16.at2
              subst et'
              rw [← HR.out]
              have HAT : Hid (SetsAt w16 at_ G ∧ SetsAt w16 ac G) := ⟨hat, setsAt_later hb16 HAC.out⟩
              have HP7 : Hid (Pq w w16 w.heap.size w.heap.size O gE cE en S ea ra ec rn rc el (.slice aw q cw) (.slice aa q ca) (.slice ab q cb) (.slice ac r cc) D (List.replicate q (mk4 5)) D G) := HP6.out.later hb16
              clear ho16 hb16 hat HP6 HAC m0 m1 m2
              go_wp2_with fail
              refine (sameSets_any ac at_ r cc ct G w16 HR.out (by omega) HAT.out.2 HAT.out.1).mono ?_
              rintro e w17 ⟨rfl, hb17⟩
              have HP8 : Hid (Pq w w17 w.heap.size w.heap.size O gE cE en S ea ra ec rn rc el (.slice aw q cw) (.slice aa q ca) (.slice ab q cb) (.slice ac r cc) D (List.replicate q (mk4 5)) (List.replicate 0 (mk4 6) ++ D.drop 0) G) := HP7.out.later hb17
              clear hb17 HP7 HAT
              go_wp2_with fail
              go_loopw [137] (fun i u => ∃ k : Nat, k ≤ q ∧ i = .int .i64 (k : Nat) ∧ Hid (Pq w u w.heap.size w.heap.size O gE cE en S ea ra ec rn rc el (.slice aw q cw) (.slice aa q ca) (.slice ab q cb) (.slice ac r cc) D (List.replicate q (mk4 5)) (List.replicate k (mk4 6) ++ D.drop k) G)) (fun i _ => q - (intOf i).toNat)
              case atStart => exact ⟨0, Nat.zero_le _, rfl, HP8⟩
              case round =>
                clear HP8
                obtain ⟨k, hk, rfl, HP⟩ := hrel
                by_cases hlt : k < q
                · have hlt' : (k : Int) < (q : Int) := by omega
                  obtain ⟨s, hs1, hs2⟩ := marks_at (mk4 6) HQ.out hlt
                  have hml := marks_len (mk4 6) HQ.out (Nat.le_of_lt hlt)
                  obtain ⟨g, c', eg, _⟩ := HP.out.swap.ra_.form (fun e => by rw [e] at hs1; simp at hs1)
                  obtain rfl := slice_some eg
                  clear eg
                  obtain ⟨p0, p1, p2, p3⟩ := HP.out.swap.ra_.cells hml hs1
                  have f0 := HP.out.swap.ra_.frozen hml (k * 4)
                  have f1 := HP.out.swap.ra_.frozen hml (k * 4 + 1)
                  have f2 := HP.out.swap.ra_.frozen hml (k * 4 + 2)
                  have f3 := HP.out.swap.ra_.frozen hml (k * 4 + 3)
                  have HP2 : Hid (Pq w ((((wr.setCell ⟨g, k * 4, none⟩ (.int .u64 6)).setCell ⟨g, k * 4 + 1, none⟩ (.int .u64 6)).setCell ⟨g, k * 4 + 2, none⟩ (.int .u64 6)).setCell ⟨g, k * 4 + 3, none⟩ (.int .u64 6)) w.heap.size w.heap.size O gE cE en S ea ra ec rn rc el (.slice aw q cw) (.slice aa q ca) (.slice (some ⟨g, 0, none⟩) q cb) (.slice ac r cc) D (List.replicate q (mk4 5)) (List.replicate (k + 1) (mk4 6) ++ D.drop (k + 1)) G) := by
                    have h := HP.out.swap.overA hml hs1 (mk4 6)
                    rw [hs2, over4_mk _ _ _ _ (by decide)] at h
                    exact h.swap
                  clear hs1 hs2 hml HP
                  go_wp2
                  go_roundw
                  case rel => exact ⟨k + 1, by omega, by go_num, HP2⟩
                  case measure => simp [intOf]; omega
                · have hge : ¬ (k : Int) < (q : Int) := by omega
                  have hkq : k = q := by omega
                  have HP1 : Hid (Pq w wr w.heap.size w.heap.size O gE cE en S ea ra ec rn rc el (.slice aw q cw) (.slice aa q ca) (.slice ab q cb) (.slice ac r cc) D (List.replicate (q + 0) (mk4 5)) (List.replicate q (mk4 6)) G) := by
                    have h := HP.out
                    rw [hkq, List.drop_eq_nil_of_le (by rw [← HQ.out]; exact Nat.le_refl _), List.append_nil] at h
                    exact h
                  clear HP hkq
                  go_wp2_with fail
                  go_loopw [6, 145] (fun v i u => ∃ (k : Nat) (vv : Value), vv = v ∧ k ≤ 3 ∧ i = .int .i64 (k : Nat) ∧ Hid (Pq w u w.heap.size w.heap.size O gE cE en S ea ra ec rn rc el (.slice aw q cw) vv (.slice ab q cb) (.slice ac r cc) D (List.replicate (q + k) (mk4 5)) (List.replicate q (mk4 6)) G)) (fun _ i _ => 3 - (intOf i).toNat)
                  case atStart => exact ⟨0, _, rfl, by omega, rfl, HP1⟩
                  case round =>
                    clear HP1
                    obtain ⟨k, vv, rfl, hk, rfl, HP⟩ := hrel
                    by_cases hlt : k < 3
                    · have hlt' : (k : Int) < 3 := by omega
                      have k6 : Below wr.heap.size wr (wr.alloc (.cells #[.int .u64 5, .int .u64 5, .int .u64 5, .int .u64 5] 31)) := (Below.refl _ _).alloc (Nat.le_refl _) _
                      have HP6 : Hid (Pq w (wr.alloc (.cells #[.int .u64 5, .int .u64 5, .int .u64 5, .int .u64 5] 31)) w.heap.size w.heap.size O gE cE en S ea ra ec rn rc el (.slice aw q cw) vv (.slice ab q cb) (.slice ac r cc) D (List.replicate (q + k) (mk4 5)) (List.replicate q (mk4 6)) G) := HP.out.later k6
                      have HC6 : Hid (∀ j u, (cells4 (mk4 5))[j]? = some u → (wr.alloc (.cells #[.int .u64 5, .int .u64 5, .int .u64 5, .int .u64 5] 31)).cell? ((⟨wr.heap.size, 0, none⟩ : Addr).add j) = some u) := fun j u h => by
                        unfold cells4 at h
                        rw [mk4_0 (by decide), mk4_1 (by decide), mk4_2 (by decide), mk4_3 (by decide)] at h
                        exact cell_new7 wr _ _ j u h
                      have HLR : Hid ((List.replicate (q + k) (mk4 5)).length = q + k) := List.length_replicate ..
                      have hB6 : w.heap.size ≤ (wr.alloc (.cells #[.int .u64 5, .int .u64 5, .int .u64 5, .int .u64 5] 31)).heap.size := HP6.out.low.size
                      have HB6 : Hid (w.heap.size ≤ (wr.alloc (.cells #[.int .u64 5, .int .u64 5, .int .u64 5, .int .u64 5] 31)).heap.size) := hB6
                      clear k6 hB6 HP
                      go_wp2_with (at_builtin; go_must (refine wpList_append_one rfl _ _ rfl w.heap.size vv (List.replicate (q + k) (mk4 5)) rfl HP6.out.ra_ HB6.out ⟨wr.heap.size, 0, none⟩ 1 (mk4 5) rfl HC6.out (by rw [HLR.out]; omega) ?_; intro g7 c7 w7 ho7 hg7 hl7; have HO7 : Hid (OwnsS w7 w.heap.size (.slice (some ⟨g7, 0, none⟩) ((List.replicate (q + k) (mk4 5)).length + 1) c7) (List.replicate (q + k) (mk4 5) ++ [mk4 5])) := ho7; have HG7 : Hid ((wr.alloc (.cells #[.int .u64 5, .int .u64 5, .int .u64 5, .int .u64 5] 31)).grownBy w7 vv.ownBlock) := hg7; have HL7 : Hid (vv.ownBlock = some g7 ∨ g7 = (wr.alloc (.cells #[.int .u64 5, .int .u64 5, .int .u64 5, .int .u64 5] 31)).heap.size) := hl7; clear ho7 hg7 hl7))
                      go_roundw
                      case rel =>
                        refine ⟨k + 1, _, rfl, by omega, by go_num, ?_⟩
                        have h := HP6.out.turnA HG7.out HO7.out (fun b hb => by
                          have hb : g7 = b := by simpa [Value.ownBlock] using hb
                          subst hb
                          rcases HL7.out with h1 | h1
                          · exact .inl h1
                          · exact .inr (Nat.le_of_eq h1.symm))
                        rw [← List.replicate_succ', List.length_replicate] at h
                        exact h
                      case measure => simp [intOf]; omega
                    · have hge : ¬ (k : Int) < 3 := by omega
                      obtain rfl : k = 3 := by omega
                      obtain ⟨xa, xc, xe, hxa, _⟩ := HP.out.ra_.at2
                      subst xe
                      rw [List.length_replicate] at HP ⊢
                      have HP1 : Hid (Pq w wr w.heap.size w.heap.size O gE cE en S ea ra ec rn rc el (.slice aw q cw) (.slice xa (q + 3) xc) (.slice ab q cb) (.slice ac r cc) D (List.replicate (q + 3) (mk4 5)) (List.replicate (q + 0) (mk4 6)) G) := HP
                      clear HP hxa
                      go_wp2_with fail
                      go_loopw [7, 152] (fun v i u => ∃ (k : Nat) (vv : Value), vv = v ∧ k ≤ 3 ∧ i = .int .i64 (k : Nat) ∧ Hid (Pq w u w.heap.size w.heap.size O gE cE en S ea ra ec rn rc el (.slice aw q cw) (.slice xa (q + 3) xc) vv (.slice ac r cc) D (List.replicate (q + 3) (mk4 5)) (List.replicate (q + k) (mk4 6)) G)) (fun _ i _ => 3 - (intOf i).toNat)
                      case atStart => exact ⟨0, _, rfl, by omega, rfl, HP1⟩
                      case round =>
                        clear HP1
                        obtain ⟨k, vv, rfl, hk, rfl, HP⟩ := hrel
                        by_cases hlt : k < 3
                        · have hlt' : (k : Int) < 3 := by omega
                          have k6 : Below wr.heap.size wr (wr.alloc (.cells #[.int .u64 6, .int .u64 6, .int .u64 6, .int .u64 6] 31)) := (Below.refl _ _).alloc (Nat.le_refl _) _
                          have HP6 : Hid (Pq w (wr.alloc (.cells #[.int .u64 6, .int .u64 6, .int .u64 6, .int .u64 6] 31)) w.heap.size w.heap.size O gE cE en S ea ra ec rn rc el (.slice aw q cw) (.slice xa (q + 3) xc) vv (.slice ac r cc) D (List.replicate (q + 3) (mk4 5)) (List.replicate (q + k) (mk4 6)) G) := HP.out.later k6
                          have HC6 : Hid (∀ j u, (cells4 (mk4 6))[j]? = some u → (wr.alloc (.cells #[.int .u64 6, .int .u64 6, .int .u64 6, .int .u64 6] 31)).cell? ((⟨wr.heap.size, 0, none⟩ : Addr).add j) = some u) := fun j u h => by
                            unfold cells4 at h
                            rw [mk4_0 (by decide), mk4_1 (by decide), mk4_2 (by decide), mk4_3 (by decide)] at h
                            exact cell_new7 wr _ _ j u h
                          have HLR : Hid ((List.replicate (q + k) (mk4 6)).length = q + k) := List.length_replicate ..
                          have hB6 : w.heap.size ≤ (wr.alloc (.cells #[.int .u64 6, .int .u64 6, .int .u64 6, .int .u64 6] 31)).heap.size := HP6.out.low.size
                          have HB6 : Hid (w.heap.size ≤ (wr.alloc (.cells #[.int .u64 6, .int .u64 6, .int .u64 6, .int .u64 6] 31)).heap.size) := hB6
                          clear k6 hB6 HP
                          go_wp2_with (at_builtin; go_must (refine wpList_append_one rfl _ _ rfl w.heap.size vv (List.replicate (q + k) (mk4 6)) rfl HP6.out.swap.ra_ HB6.out ⟨wr.heap.size, 0, none⟩ 1 (mk4 6) rfl HC6.out (by rw [HLR.out]; omega) ?_; intro g7 c7 w7 ho7 hg7 hl7; have HO7 : Hid (OwnsS w7 w.heap.size (.slice (some ⟨g7, 0, none⟩) ((List.replicate (q + k) (mk4 6)).length + 1) c7) (List.replicate (q + k) (mk4 6) ++ [mk4 6])) := ho7; have HG7 : Hid ((wr.alloc (.cells #[.int .u64 6, .int .u64 6, .int .u64 6, .int .u64 6] 31)).grownBy w7 vv.ownBlock) := hg7; have HL7 : Hid (vv.ownBlock = some g7 ∨ g7 = (wr.alloc (.cells #[.int .u64 6, .int .u64 6, .int .u64 6, .int .u64 6] 31)).heap.size) := hl7; clear ho7 hg7 hl7))
                          go_roundw
                          case rel =>
                            refine ⟨k + 1, _, rfl, by omega, by go_num, ?_⟩
                            have h := HP6.out.swap.turnA HG7.out HO7.out (fun b hb => by
                              have hb : g7 = b := by simpa [Value.ownBlock] using hb
                              subst hb
                              rcases HL7.out with h1 | h1
                              · exact .inl h1
                              · exact .inr (Nat.le_of_eq h1.symm))
                            rw [← List.replicate_succ', List.length_replicate] at h
                            exact h.swap
                          case measure => simp [intOf]; omega
                        · have hge : ¬ (k : Int) < 3 := by omega
                          obtain rfl : k = 3 := by omega
                          obtain ⟨ya, yc, ye, hya, _⟩ := HP.out.rb_.at2
                          subst ye
                          rw [List.length_replicate] at HP ⊢
                          obtain ⟨xa', xc', xe', hxa, _⟩ := HP.out.ra_.at2
                          obtain rfl := slice_addr xe'
                          clear xe'
                          obtain ⟨za, zc, ze, hza, _⟩ := HP.out.rc_.at2
                          obtain rfl := slice_addr ze
                          clear ze
                          have HXA : Hid (SetsAt wr xa (List.replicate (q + 3) (mk4 5)) ∧ SetsAt wr ya (List.replicate (q + 3) (mk4 6)) ∧ SetsAt wr ac G) := ⟨hxa, hya, hza⟩
                          have HLO : Hid (Below w.heap.size w wr) := HP.out.low
                          obtain ⟨m0, m1, m2⟩ := HP.out.own.cells
                          have HED : Hid (EA wr (some ⟨gE, 0, none⟩) (el.take en)) := HGE.out _ HP.out.edges.at0
                          clear hxa hya hza HP
                          go_wp2_with fail
                          refine (bears_any xa (q + 3) xc 5 wr (by decide) (by omega) HXA.out.1).mono ?_
                          rintro e w20 ⟨rfl, hw20⟩
                          subst hw20
                          go_wp2_with fail
                          refine (bears_any ya (q + 3) yc 6 w20 (by decide) (by omega) HXA.out.2.1).mono ?_
                          rintro e w21 ⟨rfl, hw21⟩
                          subst hw21
                          go_wp2_with fail
                          refine (rsets_any S (some ⟨gE, 0, none⟩) ra en cE rn rc (el.take en) w21 HGN.out (by omega) HED.out).mono ?_
                          rintro e w22 ⟨vt, rfl, ho22, hb22⟩
                          rw [← HG.out] at ho22
                          obtain ⟨at2_, ct2, et2, hat2, _⟩ := ho22.at2
                          subst et2
                          rw [← HR.out]
                          have HAT2 : Hid (SetsAt w22 at2_ G ∧ SetsAt w22 ac G) := ⟨hat2, setsAt_later hb22 HXA.out.2.2⟩
                          have HLO2 : Hid (Below w.heap.size w w22) := below_trans HLO.out hb22 HLO.out.size
                          clear ho22 hb22 hat2 HXA HLO HED m0 m1 m2
                          go_wp2_with fail
                          refine (sameSets_any ac at2_ r cc ct2 G w22 HR.out (by omega) HAT2.out.2 HAT2.out.1).mono ?_
                          rintro e w23 ⟨rfl, hb23⟩
                          have HLO3 : Hid (Below w.heap.size w w23) := below_trans HLO2.out hb23 HLO2.out.size
                          clear hb23 HAT2 HLO2
                          go_wp2
                          go_ret
                          exact ⟨rfl, HLO3.out⟩
end Go.Proofs.Ytemmicnhnaafmaa
