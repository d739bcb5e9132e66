/- NfaExact, walked. -/
import Derived.Test.YtjmbimgofceanaaG31
import Derived.Test.YtjmbimgofceanaaG32
import Derived.Test.YtjmbimgofceanaaG34
import Derived.Test.YtjmbimgofceanaaG35
namespace Go.Proofs.Ytjmbimgofceanaa
open Go.RowKit
attribute [local go_sem ↓] Go.wp_at_zero Go.wp_at_succ

/-- WHAT THE PROGRAM's OWN FUNCTIONS OWE. -/
def BuildOK : Prop := ∀ (t : Tn) (x : Nd) (w : World) (rule : Int), InAt w t x → Calls Try.prog 11 #[x.val, .int .i64 rule] w (BuildPost w t rule)
def UnionOK : Prop := ∀ (Ms : List Ma) (xs : List Nf) (a : Option Addr) (c : Nat) (w : World), ListAt w a Ms xs → Ms.length ≤ c → c ≤ maxLen → Ms.length ≤ 10000000 → (unions Ms ⟨1, [], [0]⟩).es.length ≤ 10000000 → (unions Ms ⟨1, [], [0]⟩).rs.length ≤ 10000000 → Calls Try.prog 21 #[.slice a Ms.length c] w (UnionPost w Ms)
def RightOK : Prop := ∀ (M : Ma) (x : Nf) (w : World), MaAt (fun _ => True) w M x → M.es.length ≤ 10000000 → M.rs.length ≤ 10000000 → Calls Try.prog 12 #[x.val] w fun e w' => e = .returned (.bool (rightOf M)) ∧ Below w.heap.size w w'
def KnownOK : Prop := ∀ w : World, Calls Try.prog 7 #[] w fun e w' => e = .returned (.bool true) ∧ Below w.heap.size w w'
set_option maxRecDepth 4000 in
set_option maxHeartbeats 64000000 in
theorem exact_any (hBd : BuildOK) (hUn : UnionOK) (hRt : RightOK) (hKn : KnownOK) {t : Tn} {x : Nd} {Ms : List Ma} {xs : List Nf} {a : Option Addr} {c : Nat} (w : World) (hin : InAt w t x) (hz : siz t ≤ 2000000) (hl : ListAt w a Ms xs) (hn : Ms.length ≤ 10000000) (hbE : (unions Ms ⟨1, [], [0]⟩).es.length ≤ 10000000) (hbR : (unions Ms ⟨1, [], [0]⟩).rs.length ≤ 10000000) (rule : Int) : Calls Try.prog 4 #[x.val, .int .i64 rule, .slice a Ms.length c] w fun e w' => e = .returned (.bool true) ∧ Below w.heap.size w w' := by
  have kk : Below w.heap.size w (w.alloc (.cells #[.int .i64 x.k, .int .u64 (Oct.word x.s 0 : Nat), .int .u64 (Oct.word x.s 1 : Nat), .int .u64 (Oct.word x.s 2 : Nat), .int .u64 (Oct.word x.s 3 : Nat), .slice x.a x.n x.c, .int .i64 x.mn, .int .i64 x.mx] 30)) := (Below.refl _ _).alloc (Nat.le_refl _) _
  have HNB : Hid (NB (w.alloc (.cells #[.int .i64 x.k, .int .u64 (Oct.word x.s 0 : Nat), .int .u64 (Oct.word x.s 1 : Nat), .int .u64 (Oct.word x.s 2 : Nat), .int .u64 (Oct.word x.s 3 : Nat), .slice x.a x.n x.c, .int .i64 x.mn, .int .i64 x.mx] 30)) w.heap.size x) := nb_new w x
  have HB : Hid (Below w.heap.size w (w.alloc (.cells #[.int .i64 x.k, .int .u64 (Oct.word x.s 0 : Nat), .int .u64 (Oct.word x.s 1 : Nat), .int .u64 (Oct.word x.s 2 : Nat), .int .u64 (Oct.word x.s 3 : Nat), .slice x.a x.n x.c, .int .i64 x.mn, .int .i64 x.mx] 30))) := kk
  have HIN : Hid (InAt (w.alloc (.cells #[.int .i64 x.k, .int .u64 (Oct.word x.s 0 : Nat), .int .u64 (Oct.word x.s 1 : Nat), .int .u64 (Oct.word x.s 2 : Nat), .int .u64 (Oct.word x.s 3 : Nat), .slice x.a x.n x.c, .int .i64 x.mn, .int .i64 x.mx] 30)) t x) := hin.later kk
  have HLI : Hid (ListAt (w.alloc (.cells #[.int .i64 x.k, .int .u64 (Oct.word x.s 0 : Nat), .int .u64 (Oct.word x.s 1 : Nat), .int .u64 (Oct.word x.s 2 : Nat), .int .u64 (Oct.word x.s 3 : Nat), .slice x.a x.n x.c, .int .i64 x.mn, .int .i64 x.mx] 30)) a Ms xs) := hl.later kk
  obtain ⟨w1, hw1⟩ : ∃ w1, w.alloc (.cells #[.int .i64 x.k, .int .u64 (Oct.word x.s 0 : Nat), .int .u64 (Oct.word x.s 1 : Nat), .int .u64 (Oct.word x.s 2 : Nat), .int .u64 (Oct.word x.s 3 : Nat), .slice x.a x.n x.c, .int .i64 x.mn, .int .i64 x.mx] 30) = w1 := ⟨_, rfl⟩
  rw [hw1] at HNB HB HIN HLI
  obtain ⟨A, hA⟩ : ∃ A, w.heap.size = A := ⟨_, rfl⟩
  rw [hA] at HNB
  have HW1 : Hid (w.alloc (.cells #[.int .i64 x.k, .int .u64 (Oct.word x.s 0 : Nat), .int .u64 (Oct.word x.s 1 : Nat), .int .u64 (Oct.word x.s 2 : Nat), .int .u64 (Oct.word x.s 3 : Nat), .slice x.a x.n x.c, .int .i64 x.mn, .int .i64 x.mx] 30) = w1) := hw1
  have HAA : Hid (w.heap.size = A) := hA
  have HBd : Hid BuildOK := hBd
  have HLW : Hid (ListAt w a Ms xs) := hl
  have HUn : Hid UnionOK := hUn
  have HRt : Hid RightOK := hRt
  have HKn : Hid KnownOK := hKn
  have HZ : Hid (siz t ≤ 2000000) := hz
  have HBE : Hid ((unions Ms ⟨1, [], [0]⟩).es.length ≤ 10000000 ∧ (unions Ms ⟨1, [], [0]⟩).rs.length ≤ 10000000) := ⟨hbE, hbR⟩
  have HHAS : Hid (∀ M ∈ Ms, M.es.length ≤ 10000000 ∧ M.rs.length ≤ 10000000) := fun M hM => by
    have h1 := unions_has Ms ⟨1, [], [0]⟩ M hM
    omega
  obtain ⟨N, hN⟩ : ∃ N, Ms.length = N := ⟨_, rfl⟩
  have HN : Hid (Ms.length = N ∧ xs.length = N) := ⟨hN, hl.len.trans hN⟩
  rw [hN] at hn ⊢
  clear hw1 hA kk hin hl hBd hUn hRt hKn hz hbE hbR hN
  unfold Nd.val
  go_enter Try.func4, Try.ntmps4
  go_upto_region 1 with fail
  rw [HW1.out, HAA.out]
  clear HW1
  go_wp2_with fail
  refine (HKn.out w1).mono ?_
  rintro e w2 ⟨rfl, kk⟩
  have HNB2 : Hid (NB w2 A x) := HNB.out.later kk
  clear HNB
  have HNB : Hid (NB w2 A x) := HNB2.out
  clear HNB2
  have HB2 : Hid (Below w.heap.size w w2) := below_step HB.out kk
  clear HB
  have HB : Hid (Below w.heap.size w w2) := HB2.out
  clear HB2
  have HIN2 : Hid (InAt w2 t x) := HIN.out.later kk
  clear HIN
  have HIN : Hid (InAt w2 t x) := HIN2.out
  clear HIN2
  have HLI2 : Hid (ListAt w2 a Ms xs) := HLI.out.later kk
  clear HLI
  have HLI : Hid (ListAt w2 a Ms xs) := HLI2.out
  clear HLI2
  clear kk HKn
  obtain ⟨y0, y1, y2, y3, y4, y5, y6, y7⟩ := HNB.out.cells
  have HC : Hid (Calls Try.prog 17 #[x.val] w2 _) := nodes_any HIN.out HZ.out w2 (Below.refl _ _)
  obtain ⟨ND, hND⟩ : ∃ ND, nds t = ND := ⟨_, rfl⟩
  rw [hND] at HC
  clear hND
  unfold Nd.val at HC
  go_wp2_with fail
  refine HC.out.mono ?_
  rintro e w3 ⟨rfl, kk⟩
  clear HC y0 y1 y2 y3 y4 y5 y6 y7
  have HNB2 : Hid (NB w3 A x) := HNB.out.later kk
  clear HNB
  have HNB : Hid (NB w3 A x) := HNB2.out
  clear HNB2
  have HB2 : Hid (Below w.heap.size w w3) := below_step HB.out kk
  clear HB
  have HB : Hid (Below w.heap.size w w3) := HB2.out
  clear HB2
  have HIN2 : Hid (InAt w3 t x) := HIN.out.later kk
  clear HIN
  have HIN : Hid (InAt w3 t x) := HIN2.out
  clear HIN2
  have HLI2 : Hid (ListAt w3 a Ms xs) := HLI.out.later kk
  clear HLI
  have HLI : Hid (ListAt w3 a Ms xs) := HLI2.out
  clear HLI2
  clear kk
  by_cases hN3 : 3000 < ND
  · have hN4 : (3000 : Int) < (ND : Int) := by omega
    go_wp2
    go_ret
    exact ⟨rfl, HB.out⟩
  have hN4 : ¬ (3000 : Int) < (ND : Int) := by omega
  obtain ⟨BD, hBD⟩ : ∃ BD, buildOf t rule = BD := ⟨_, rfl⟩
  have HBO : Hid (buildOf t rule = BD) := hBD
  have HMB : Hid (BD.1.es.length ≤ 4096 ∧ BD.1.rs.length ≤ 4096) := by rw [← hBD]; exact mach_bounds t rule
  clear hBD
  obtain ⟨y0, y1, y2, y3, y4, y5, y6, y7⟩ := HNB.out.cells
  have HC : Hid (Calls Try.prog 11 #[x.val, .int .i64 rule] w3 _) := HBd.out t x w3 rule HIN.out
  unfold Nd.val at HC
  go_wp2_with fail
  refine HC.out.mono ?_
  rintro e w4 ⟨kk, p, rfl, hp⟩
  rw [HBO.out] at hp
  rw [HBO.out]
  clear HC y0 y1 y2 y3 y4 y5 y6 y7
  have HNB2 : Hid (NB w4 A x) := HNB.out.later kk
  clear HNB
  have HNB : Hid (NB w4 A x) := HNB2.out
  clear HNB2
  have HB2 : Hid (Below w.heap.size w w4) := below_step HB.out kk
  clear HB
  have HB : Hid (Below w.heap.size w w4) := HB2.out
  clear HB2
  have HIN2 : Hid (InAt w4 t x) := HIN.out.later kk
  clear HIN
  have HIN : Hid (InAt w4 t x) := HIN2.out
  clear HIN2
  have HLI2 : Hid (ListAt w4 a Ms xs) := HLI.out.later kk
  clear HLI
  have HLI : Hid (ListAt w4 a Ms xs) := HLI2.out
  clear HLI2
  have HP : Hid (MaAt (fun _ => True) w4 BD.1 p) := hp.keep (fun _ _ _ => trivial) (fun _ _ _ => rfl)
  clear kk hp
  have kk : Below w4.heap.size w4 (w4.alloc (.cells #[.int .i64 p.S, .slice p.ea p.en p.ec, .slice p.ra p.rn p.rc] 38)) := (Below.refl _ _).alloc (Nat.le_refl _) _
  have HNp : Hid (NFB (w4.alloc (.cells #[.int .i64 p.S, .slice p.ea p.en p.ec, .slice p.ra p.rn p.rc] 38)) w4.heap.size p) := nfb_new w4 p
  obtain ⟨w5, hw5⟩ : ∃ w5, (w4.alloc (.cells #[.int .i64 p.S, .slice p.ea p.en p.ec, .slice p.ra p.rn p.rc] 38)) = w5 := ⟨_, rfl⟩
  obtain ⟨A5, hA5⟩ : ∃ A5, w4.heap.size = A5 := ⟨_, rfl⟩
  rw [hw5] at kk HNp
  have HNB2 : Hid (NB w5 A x) := HNB.out.later kk
  clear HNB
  have HNB : Hid (NB w5 A x) := HNB2.out
  clear HNB2
  have HB2 : Hid (Below w.heap.size w w5) := below_step HB.out kk
  clear HB
  have HB : Hid (Below w.heap.size w w5) := HB2.out
  clear HB2
  have HIN2 : Hid (InAt w5 t x) := HIN.out.later kk
  clear HIN
  have HIN : Hid (InAt w5 t x) := HIN2.out
  clear HIN2
  have HLI2 : Hid (ListAt w5 a Ms xs) := HLI.out.later kk
  clear HLI
  have HLI : Hid (ListAt w5 a Ms xs) := HLI2.out
  clear HLI2
  have HP2 : Hid (MaAt (fun _ => True) w5 BD.1 p) := HP.out.later kk
  clear HP
  have HP : Hid (MaAt (fun _ => True) w5 BD.1 p) := HP2.out
  clear HP2
  rw [hA5] at HNp
  have HWw5 : Hid ((w4.alloc (.cells #[.int .i64 p.S, .slice p.ea p.en p.ec, .slice p.ra p.rn p.rc] 38)) = w5) := hw5
  have HAA5 : Hid (w4.heap.size = A5) := hA5
  clear kk hw5 hA5
  unfold Nf.val
  go_upto_region 6 with fail
  rw [HWw5.out, HAA5.out]
  clear HWw5
  obtain ⟨y0, y1, y2, y3, y4, y5, y6, y7⟩ := HNB.out.cells
  have HC : Hid (Calls Try.prog 18 #[x.val, .int .i64 rule] w5 _) := build_any w5 HIN.out rule
  unfold Nd.val at HC
  go_wp2_with fail
  refine HC.out.mono ?_
  rintro e w6 ⟨kk, q, rfl, hq⟩
  rw [HBO.out] at hq
  rw [HBO.out]
  clear HC y0 y1 y2 y3 y4 y5 y6 y7
  have HNB2 : Hid (NB w6 A x) := HNB.out.later kk
  clear HNB
  have HNB : Hid (NB w6 A x) := HNB2.out
  clear HNB2
  have HB2 : Hid (Below w.heap.size w w6) := below_step HB.out kk
  clear HB
  have HB : Hid (Below w.heap.size w w6) := HB2.out
  clear HB2
  have HIN2 : Hid (InAt w6 t x) := HIN.out.later kk
  clear HIN
  have HIN : Hid (InAt w6 t x) := HIN2.out
  clear HIN2
  have HLI2 : Hid (ListAt w6 a Ms xs) := HLI.out.later kk
  clear HLI
  have HLI : Hid (ListAt w6 a Ms xs) := HLI2.out
  clear HLI2
  have HP2 : Hid (MaAt (fun _ => True) w6 BD.1 p) := HP.out.later kk
  clear HP
  have HP : Hid (MaAt (fun _ => True) w6 BD.1 p) := HP2.out
  clear HP2
  have HNp2 : Hid (NFB w6 A5 p) := HNp.out.later kk
  clear HNp
  have HNp : Hid (NFB w6 A5 p) := HNp2.out
  clear HNp2
  have HQ : Hid (MaAt (fun _ => True) w6 BD.1 q) := hq.keep (fun _ _ _ => trivial) (fun _ _ _ => rfl)
  clear kk hq
  have kk : Below w6.heap.size w6 (w6.alloc (.cells #[.int .i64 q.S, .slice q.ea q.en q.ec, .slice q.ra q.rn q.rc] 38)) := (Below.refl _ _).alloc (Nat.le_refl _) _
  have HNq : Hid (NFB (w6.alloc (.cells #[.int .i64 q.S, .slice q.ea q.en q.ec, .slice q.ra q.rn q.rc] 38)) w6.heap.size q) := nfb_new w6 q
  obtain ⟨w7, hw7⟩ : ∃ w7, (w6.alloc (.cells #[.int .i64 q.S, .slice q.ea q.en q.ec, .slice q.ra q.rn q.rc] 38)) = w7 := ⟨_, rfl⟩
  obtain ⟨A7, hA7⟩ : ∃ A7, w6.heap.size = A7 := ⟨_, rfl⟩
  rw [hw7] at kk HNq
  have HNB2 : Hid (NB w7 A x) := HNB.out.later kk
  clear HNB
  have HNB : Hid (NB w7 A x) := HNB2.out
  clear HNB2
  have HB2 : Hid (Below w.heap.size w w7) := below_step HB.out kk
  clear HB
  have HB : Hid (Below w.heap.size w w7) := HB2.out
  clear HB2
  have HIN2 : Hid (InAt w7 t x) := HIN.out.later kk
  clear HIN
  have HIN : Hid (InAt w7 t x) := HIN2.out
  clear HIN2
  have HLI2 : Hid (ListAt w7 a Ms xs) := HLI.out.later kk
  clear HLI
  have HLI : Hid (ListAt w7 a Ms xs) := HLI2.out
  clear HLI2
  have HP2 : Hid (MaAt (fun _ => True) w7 BD.1 p) := HP.out.later kk
  clear HP
  have HP : Hid (MaAt (fun _ => True) w7 BD.1 p) := HP2.out
  clear HP2
  have HNp2 : Hid (NFB w7 A5 p) := HNp.out.later kk
  clear HNp
  have HNp : Hid (NFB w7 A5 p) := HNp2.out
  clear HNp2
  have HQ2 : Hid (MaAt (fun _ => True) w7 BD.1 q) := HQ.out.later kk
  clear HQ
  have HQ : Hid (MaAt (fun _ => True) w7 BD.1 q) := HQ2.out
  clear HQ2
  rw [hA7] at HNq
  have HWw7 : Hid ((w6.alloc (.cells #[.int .i64 q.S, .slice q.ea q.en q.ec, .slice q.ra q.rn q.rc] 38)) = w7) := hw7
  have HAA7 : Hid (w6.heap.size = A7) := hA7
  clear kk hw7 hA7
  unfold Nf.val
  go_upto_region 7 with fail
  rw [HWw7.out, HAA7.out]
  clear HWw7
  obtain ⟨p0, p1, p2⟩ := HNp.out.cells
  obtain ⟨q0, q1, q2⟩ := HNq.out.cells
  have HC : Hid (Calls Try.prog 19 #[p.val, q.val] w7 _) := same_any w7 HP.out HQ.out (by have := HMB.out; omega) (by have := HMB.out; omega)
  unfold Nf.val at HC
  obtain ⟨ER, hER⟩ : ∃ ER, BD.2 = ER := ⟨_, rfl⟩
  rw [hER]
  clear hER
  go_wp2_with fail
  refine HC.out.mono ?_
  rintro e w8 ⟨rfl, kk⟩
  clear HC p0 p1 p2 q0 q1 q2 HNp HNq HP HQ
  have HNB2 : Hid (NB w8 A x) := HNB.out.later kk
  clear HNB
  have HNB : Hid (NB w8 A x) := HNB2.out
  clear HNB2
  have HB2 : Hid (Below w.heap.size w w8) := below_step HB.out kk
  clear HB
  have HB : Hid (Below w.heap.size w w8) := HB2.out
  clear HB2
  have HIN2 : Hid (InAt w8 t x) := HIN.out.later kk
  clear HIN
  have HIN : Hid (InAt w8 t x) := HIN2.out
  clear HIN2
  have HLI2 : Hid (ListAt w8 a Ms xs) := HLI.out.later kk
  clear HLI
  have HLI : Hid (ListAt w8 a Ms xs) := HLI2.out
  clear HLI2
  clear kk
  go_wp2_with fail
  obtain ⟨v0, hv0⟩ : ∃ v0 : World, v0 = w8 := ⟨_, rfl⟩
  subst hv0
  have HV0 : Hid (w.heap.size ≤ v0.heap.size) := HB.out.size
  go_loopw [11, 46] (fun V i u => ∃ (j : Nat) (ys : List Nf), i = .int .i64 (j : Nat) ∧ j ≤ N ∧ Hid (ys.length = j) ∧ Hid (RowM u v0.heap.size V ys) ∧ Hid (Cops u v0.heap.size Ms ys) ∧ Hid (Below v0.heap.size v0 u)) (fun _ i _ => N - (intOf i).toNat)
  case atStart => exact ⟨0, [], rfl, Nat.zero_le _, rfl, rowM_nil _ _, fun i M y _ hy => by simp at hy, Below.refl _ _⟩
  case round =>
    obtain ⟨j, ys, rfl, hjn, HYL, HRM, HCS, HBv⟩ := hrel
    by_cases hlt : j < N
    · have hlt' : (j : Int) < (N : Int) := by omega
      obtain ⟨M, hM⟩ : ∃ M, Ms[j]? = some M := ⟨_, List.getElem?_eq_getElem (by rw [HN.out.1]; exact hlt)⟩
      obtain ⟨y, hy⟩ : ∃ y, xs[j]? = some y := ⟨_, List.getElem?_eq_getElem (by rw [HN.out.2]; exact hlt)⟩
      have HLr := HLI.out.later HBv.out
      have HMa : Hid (MaAt (fun _ => True) wr M y) := HLr.ma j M y hM hy
      obtain ⟨b, off, rfl, p0, p1, p2⟩ := HLr.at_.nth hy
      have HMM : Hid (Ms[j]? = some M) := hM
      have HMS : Hid (M.es.length ≤ 10000000 ∧ M.rs.length ≤ 10000000) := HHAS.out M (List.mem_of_getElem? hM)
      clear hM hy HLr
      have kk : Below wr.heap.size wr (wr.alloc (.cells #[.int .i64 y.S, .slice y.ea y.en y.ec, .slice y.ra y.rn y.rc] 38)) := (Below.refl _ _).alloc (Nat.le_refl _) _
      have HNY : Hid (NFB (wr.alloc (.cells #[.int .i64 y.S, .slice y.ea y.en y.ec, .slice y.ra y.rn y.rc] 38)) wr.heap.size y) := nfb_new wr y
      have HRM1 : Hid (RowM (wr.alloc (.cells #[.int .i64 y.S, .slice y.ea y.en y.ec, .slice y.ra y.rn y.rc] 38)) v0.heap.size u11 ys) := HRM.out.later kk
      have HCS1 : Hid (Cops (wr.alloc (.cells #[.int .i64 y.S, .slice y.ea y.en y.ec, .slice y.ra y.rn y.rc] 38)) v0.heap.size Ms ys) := HCS.out.later kk
      have HBv1 : Hid (Below v0.heap.size v0 (wr.alloc (.cells #[.int .i64 y.S, .slice y.ea y.en y.ec, .slice y.ra y.rn y.rc] 38))) := below_step HBv.out kk
      have HMa1 : Hid (MaAt (fun _ => True) (wr.alloc (.cells #[.int .i64 y.S, .slice y.ea y.en y.ec, .slice y.ra y.rn y.rc] 38)) M y) := HMa.out.later kk
      go_upto_region 13 with fail
      obtain ⟨u1, hu1⟩ : ∃ u1, wr.alloc (.cells #[.int .i64 y.S, .slice y.ea y.en y.ec, .slice y.ra y.rn y.rc] 38) = u1 := ⟨_, rfl⟩
      obtain ⟨G, hG⟩ : ∃ G, wr.heap.size = G := ⟨_, rfl⟩
      rw [hu1] at HNY HRM1 HCS1 HBv1 HMa1 ⊢
      rw [hG] at HNY ⊢
      clear hu1 hG kk p0 p1 p2 HRM HCS HBv HMa
      obtain ⟨p0, p1, p2⟩ := HNY.out.cells
      have HC : Hid (Calls Try.prog 20 #[y.val] u1 _) := copied_any u1 HMa1.out HMS.out.1 HMS.out.2
      unfold Nf.val at HC
      go_wp2_with fail
      refine HC.out.mono ?_
      rintro e u2 ⟨kk, z, rfl, hz⟩
      have HRM2 : Hid (RowM u2 v0.heap.size u11 ys) := HRM1.out.later kk
      have HCS2 : Hid (Cops u2 v0.heap.size Ms ys) := HCS1.out.later kk
      have HBv2 : Hid (Below v0.heap.size v0 u2) := below_step HBv1.out kk
      have HZ2 : Hid (Cop (fun b => v0.heap.size ≤ b ∧ ¬ TyB u2 38 b) u2 M z) := hz.keep (fun b hX _ => ⟨Nat.le_trans HBv1.out.size hX.1, hX.2⟩) (fun _ _ _ => rfl)
      clear hz kk HC p0 p1 p2 HNY HRM1 HCS1 HBv1 HMa1
      have HCS3 : Hid (Cops u2 v0.heap.size Ms (ys ++ [z])) := HCS2.out.snoc (by rw [HYL.out]; exact HMM.out) HZ2.out
      have kk : Below u2.heap.size u2 (u2.alloc (.cells #[.int .i64 z.S, .slice z.ea z.en z.ec, .slice z.ra z.rn z.rc] 38)) := (Below.refl _ _).alloc (Nat.le_refl _) _
      have HRM4 : Hid (RowM (u2.alloc (.cells #[.int .i64 z.S, .slice z.ea z.en z.ec, .slice z.ra z.rn z.rc] 38)) v0.heap.size u11 ys) := HRM2.out.later kk
      have HCS4 : Hid (Cops (u2.alloc (.cells #[.int .i64 z.S, .slice z.ea z.en z.ec, .slice z.ra z.rn z.rc] 38)) v0.heap.size Ms (ys ++ [z])) := HCS3.out.later kk
      have HBv4 : Hid (Below v0.heap.size v0 (u2.alloc (.cells #[.int .i64 z.S, .slice z.ea z.en z.ec, .slice z.ra z.rn z.rc] 38))) := below_step HBv2.out kk
      have HCC4 : Hid (∀ j v, z.cells[j]? = some v → (u2.alloc (.cells #[.int .i64 z.S, .slice z.ea z.en z.ec, .slice z.ra z.rn z.rc] 38)).cell? ((⟨u2.heap.size, 0, none⟩ : Addr).add j) = some v) := fun j v hj => by
        rw [Go.WideShapes.add_plain, Nat.zero_add]
        simp only [World.cell?, heap_alloc_new]
        rw [← Array.getElem?_toList]
        exact hj
      clear kk HRM2 HCS2 HCS3 HBv2 HZ2
      go_wp2_with (at_builtin; go_must (refine wpList_append_nf rfl _ _ rfl v0.heap.size j _ ys rfl HYL.out HRM4.out ⟨u2.heap.size, 0, none⟩ 1 z rfl HCC4.out (by omega) HBv4.out.size ?_; intro g cap u5 hr5 hg5; have HRM5 : Hid (RowM u5 v0.heap.size (.slice (some ⟨g, 0, none⟩) (j + 1) cap) (ys ++ [z])) := hr5; have HCS5 : Hid (Cops u5 v0.heap.size Ms (ys ++ [z])) := HCS4.out.grown hg5 (fun k hk => (HRM4.out.ty k hk).2); have HBv5 : Hid (Below v0.heap.size v0 u5) := ⟨hg5.os.trans HBv4.out.os, hg5.tape.trans HBv4.out.tape, hg5.output.trans HBv4.out.output, Nat.le_trans HBv4.out.size hg5.size, fun k hk => (hg5.block k (Nat.lt_of_lt_of_le hk HBv4.out.size) (fun e => by have := (HRM4.out.ty k e.symm).1; omega)).trans (HBv4.out.block k hk)⟩; clear hr5 hg5))
      go_roundw
      case rel => exact ⟨j + 1, ys ++ [z], by go_num, by omega, (by have := HYL.out; show _ = _; simp; omega), HRM5, HCS5, HBv5⟩
      case measure => simp [intOf]; omega
    · have hlt' : ¬ (j : Int) < (N : Int) := by omega
      have hjN : N = j := by omega
      subst hjN
      have HB1 : Hid (Below w.heap.size w wr) := below_step HB.out HBv.out
      have HL1 : Hid (ListAt wr a Ms xs) := HLI.out.later HBv.out
      clear HB HLI
      have kk : Below wr.heap.size wr (wr.alloc (.cells #[.int .i64 99, .slice none 0 0, .slice none 0 0] 38)) := (Below.refl _ _).alloc (Nat.le_refl _) _
      have HB2 : Hid (Below w.heap.size w (wr.alloc (.cells #[.int .i64 99, .slice none 0 0, .slice none 0 0] 38))) := below_step HB1.out kk
      have HL2 : Hid (ListAt (wr.alloc (.cells #[.int .i64 99, .slice none 0 0, .slice none 0 0] 38)) a Ms xs) := HL1.out.later kk
      have HRM2 : Hid (RowM (wr.alloc (.cells #[.int .i64 99, .slice none 0 0, .slice none 0 0] 38)) v0.heap.size u11 ys) := HRM.out.later kk
      have HCS2 : Hid (Cops (wr.alloc (.cells #[.int .i64 99, .slice none 0 0, .slice none 0 0] 38)) v0.heap.size Ms ys) := HCS.out.later kk
      have HZ2 : Hid (v0.heap.size ≤ (wr.alloc (.cells #[.int .i64 99, .slice none 0 0, .slice none 0 0] 38)).heap.size) := Nat.le_trans HBv.out.size kk.size
      have HCC2 : Hid (∀ j v, (Nf.cells ⟨99, none, 0, 0, none, 0, 0⟩)[j]? = some v → (wr.alloc (.cells #[.int .i64 99, .slice none 0 0, .slice none 0 0] 38)).cell? ((⟨wr.heap.size, 0, none⟩ : Addr).add j) = some v) := fun j v hj => by
        rw [Go.WideShapes.add_plain, Nat.zero_add]
        simp only [World.cell?, heap_alloc_new]
        rw [← Array.getElem?_toList]
        exact hj
      clear kk
      go_upto_region 16 with (at_builtin; go_must (refine wpList_append_nf rfl _ _ rfl v0.heap.size N _ ys rfl HYL.out HRM2.out ⟨wr.heap.size, 0, none⟩ 1 ⟨99, none, 0, 0, none, 0, 0⟩ rfl HCC2.out (by omega) HZ2.out ?_; intro g cap u5 hr5 hg5; have HRM5 : Hid (RowM u5 v0.heap.size (.slice (some ⟨g, 0, none⟩) (N + 1) cap) (ys ++ [⟨99, none, 0, 0, none, 0, 0⟩])) := hr5; have HCS5 : Hid (Cops u5 v0.heap.size Ms ys) := HCS2.out.grown hg5 (fun k hk => (HRM2.out.ty k hk).2); have HG5 : Hid ((wr.alloc (.cells #[.int .i64 99, .slice none 0 0, .slice none 0 0] 38)).grownBy u5 u11.ownBlock) := hg5; clear hr5 hg5))
      have HB5 : Hid (Below w.heap.size w u5) := ⟨HG5.out.os.trans HB2.out.os, HG5.out.tape.trans HB2.out.tape, HG5.out.output.trans HB2.out.output, Nat.le_trans HB2.out.size HG5.out.size, fun k hk => (HG5.out.block k (Nat.lt_of_lt_of_le hk HB2.out.size) (fun e => by have h1 := (HRM2.out.ty k e.symm).1; have h2 := HV0.out; omega)).trans (HB2.out.block k hk)⟩
      have HLI : Hid (ListAt u5 a Ms xs) := HLW.out.later HB5.out
      clear HB1 HL1 HB2 HL2 HRM2 HCS2 HZ2 HCC2 HG5 HRM HCS HBv
      have HB : Hid (Below w.heap.size w u5) := HB5.out
      have HRM : Hid (RowM u5 v0.heap.size (.slice (some ⟨g, 0, none⟩) (N + 1) cap) (ys ++ [⟨99, none, 0, 0, none, 0, 0⟩])) := HRM5.out
      have HCS : Hid (Cops u5 v0.heap.size Ms ys) := HCS5.out
      clear HB5 HRM5 HCS5
      have hcap : N + 1 ≤ cap ∧ cap ≤ maxLen := by
        obtain ⟨a2, c2, hV, h1, h2, _⟩ := HRM.out.form
        simp only [Value.slice.injEq] at hV
        obtain ⟨_, _, rfl⟩ := hV
        rw [List.length_append, HYL.out] at h1
        exact ⟨h1, h2⟩
      obtain ⟨hcap1, hcap2⟩ := hcap
      have HLA : Hid (∀ u : World, RowM u v0.heap.size (.slice (some ⟨g, 0, none⟩) (N + 1) cap) (ys ++ [⟨99, none, 0, 0, none, 0, 0⟩]) → LAt u (some ⟨g, 0, none⟩) (ys ++ [⟨99, none, 0, 0, none, 0, 0⟩])) := fun u h => by
        obtain ⟨a2, c2, hV, _, _, h3⟩ := h.form
        simp only [Value.slice.injEq] at hV
        obtain ⟨h4, _, _⟩ := hV
        rw [h4]
        exact h3
      have HC : Hid (Calls Try.prog 21 #[.slice (some ⟨g, 0, none⟩) Ms.length cap] u5 _) := HUn.out Ms ys (some ⟨g, 0, none⟩) cap u5 (HCS.out.list (HYL.out.trans HN.out.1.symm) (HLA.out u5 HRM.out).front) (by rw [HN.out.1]; omega) hcap2 (by rw [HN.out.1]; omega) HBE.out.1 HBE.out.2
      rw [HN.out.1] at HC
      simp only [maxLen] at hcap2
      have hcap3 : (N : Int) ≤ (cap : Int) := by omega
      obtain ⟨UO, hUO⟩ : ∃ UO, unionOf Ms = UO := ⟨_, rfl⟩
      have HUO : Hid (unionOf Ms = UO) := hUO
      have HUB : Hid (UO.1.es.length ≤ 10000000 ∧ UO.1.rs.length ≤ 10000000) := by rw [← hUO]; exact union_bounds HBE.out.1 HBE.out.2
      clear hUO
      go_wp2_with fail
      refine HC.out.mono ?_
      rintro e u6 ⟨kk, p, rfl, hp⟩
      rw [HUO.out] at hp
      rw [HUO.out]
      clear HC
      have HB2 : Hid (Below w.heap.size w u6) := below_step HB.out kk
      clear HB
      have HB : Hid (Below w.heap.size w u6) := HB2.out
      clear HB2
      have HLI2 : Hid (ListAt u6 a Ms xs) := HLI.out.later kk
      clear HLI
      have HLI : Hid (ListAt u6 a Ms xs) := HLI2.out
      clear HLI2
      have HRM2 : Hid (RowM u6 v0.heap.size (.slice (some ⟨g, 0, none⟩) (N + 1) cap) (ys ++ [⟨99, none, 0, 0, none, 0, 0⟩])) := HRM.out.later kk
      clear HRM
      have HRM : Hid (RowM u6 v0.heap.size (.slice (some ⟨g, 0, none⟩) (N + 1) cap) (ys ++ [⟨99, none, 0, 0, none, 0, 0⟩])) := HRM2.out
      clear HRM2
      have HCS2 : Hid (Cops u6 v0.heap.size Ms ys) := HCS.out.later kk
      clear HCS
      have HCS : Hid (Cops u6 v0.heap.size Ms ys) := HCS2.out
      clear HCS2
      have HP : Hid (MaAt (fun _ => True) u6 UO.1 p) := hp.keep (fun _ _ _ => trivial) (fun _ _ _ => rfl)
      clear kk hp
      have kk : Below u6.heap.size u6 (u6.alloc (.cells #[.int .i64 p.S, .slice p.ea p.en p.ec, .slice p.ra p.rn p.rc] 38)) := (Below.refl _ _).alloc (Nat.le_refl _) _
      have HNp : Hid (NFB (u6.alloc (.cells #[.int .i64 p.S, .slice p.ea p.en p.ec, .slice p.ra p.rn p.rc] 38)) u6.heap.size p) := nfb_new u6 p
      obtain ⟨u7, hu7⟩ : ∃ u7, (u6.alloc (.cells #[.int .i64 p.S, .slice p.ea p.en p.ec, .slice p.ra p.rn p.rc] 38)) = u7 := ⟨_, rfl⟩
      obtain ⟨A14, hA14⟩ : ∃ A14, u6.heap.size = A14 := ⟨_, rfl⟩
      rw [hu7] at kk HNp
      have HB2 : Hid (Below w.heap.size w u7) := below_step HB.out kk
      clear HB
      have HB : Hid (Below w.heap.size w u7) := HB2.out
      clear HB2
      have HLI2 : Hid (ListAt u7 a Ms xs) := HLI.out.later kk
      clear HLI
      have HLI : Hid (ListAt u7 a Ms xs) := HLI2.out
      clear HLI2
      have HRM2 : Hid (RowM u7 v0.heap.size (.slice (some ⟨g, 0, none⟩) (N + 1) cap) (ys ++ [⟨99, none, 0, 0, none, 0, 0⟩])) := HRM.out.later kk
      clear HRM
      have HRM : Hid (RowM u7 v0.heap.size (.slice (some ⟨g, 0, none⟩) (N + 1) cap) (ys ++ [⟨99, none, 0, 0, none, 0, 0⟩])) := HRM2.out
      clear HRM2
      have HCS2 : Hid (Cops u7 v0.heap.size Ms ys) := HCS.out.later kk
      clear HCS
      have HCS : Hid (Cops u7 v0.heap.size Ms ys) := HCS2.out
      clear HCS2
      have HP2 : Hid (MaAt (fun _ => True) u7 UO.1 p) := HP.out.later kk
      clear HP
      have HP : Hid (MaAt (fun _ => True) u7 UO.1 p) := HP2.out
      clear HP2
      rw [hA14] at HNp
      have HWu7 : Hid ((u6.alloc (.cells #[.int .i64 p.S, .slice p.ea p.en p.ec, .slice p.ra p.rn p.rc] 38)) = u7) := hu7
      have HAA14 : Hid (u6.heap.size = A14) := hA14
      clear kk hu7 hA14
      unfold Nf.val
      go_upto_region 17 with fail
      rw [HWu7.out, HAA14.out]
      clear HWu7
      have HC : Hid (Calls Try.prog 22 #[.slice a Ms.length c] u7 _) := union_any u7 HLI.out (by rw [HN.out.1]; omega) HBE.out.1 HBE.out.2
      rw [HN.out.1] at HC
      go_wp2_with fail
      refine HC.out.mono ?_
      rintro e u8 ⟨kk, q, rfl, hq⟩
      rw [HUO.out] at hq
      rw [HUO.out]
      clear HC
      have HB2 : Hid (Below w.heap.size w u8) := below_step HB.out kk
      clear HB
      have HB : Hid (Below w.heap.size w u8) := HB2.out
      clear HB2
      have HLI2 : Hid (ListAt u8 a Ms xs) := HLI.out.later kk
      clear HLI
      have HLI : Hid (ListAt u8 a Ms xs) := HLI2.out
      clear HLI2
      have HRM2 : Hid (RowM u8 v0.heap.size (.slice (some ⟨g, 0, none⟩) (N + 1) cap) (ys ++ [⟨99, none, 0, 0, none, 0, 0⟩])) := HRM.out.later kk
      clear HRM
      have HRM : Hid (RowM u8 v0.heap.size (.slice (some ⟨g, 0, none⟩) (N + 1) cap) (ys ++ [⟨99, none, 0, 0, none, 0, 0⟩])) := HRM2.out
      clear HRM2
      have HCS2 : Hid (Cops u8 v0.heap.size Ms ys) := HCS.out.later kk
      clear HCS
      have HCS : Hid (Cops u8 v0.heap.size Ms ys) := HCS2.out
      clear HCS2
      have HP2 : Hid (MaAt (fun _ => True) u8 UO.1 p) := HP.out.later kk
      clear HP
      have HP : Hid (MaAt (fun _ => True) u8 UO.1 p) := HP2.out
      clear HP2
      have HNp2 : Hid (NFB u8 A14 p) := HNp.out.later kk
      clear HNp
      have HNp : Hid (NFB u8 A14 p) := HNp2.out
      clear HNp2
      have HQ : Hid (MaAt (fun _ => True) u8 UO.1 q) := hq.keep (fun _ _ _ => trivial) (fun _ _ _ => rfl)
      clear kk hq
      have kk : Below u8.heap.size u8 (u8.alloc (.cells #[.int .i64 q.S, .slice q.ea q.en q.ec, .slice q.ra q.rn q.rc] 38)) := (Below.refl _ _).alloc (Nat.le_refl _) _
      have HNq : Hid (NFB (u8.alloc (.cells #[.int .i64 q.S, .slice q.ea q.en q.ec, .slice q.ra q.rn q.rc] 38)) u8.heap.size q) := nfb_new u8 q
      obtain ⟨u9, hu9⟩ : ∃ u9, (u8.alloc (.cells #[.int .i64 q.S, .slice q.ea q.en q.ec, .slice q.ra q.rn q.rc] 38)) = u9 := ⟨_, rfl⟩
      obtain ⟨A15, hA15⟩ : ∃ A15, u8.heap.size = A15 := ⟨_, rfl⟩
      rw [hu9] at kk HNq
      have HB2 : Hid (Below w.heap.size w u9) := below_step HB.out kk
      clear HB
      have HB : Hid (Below w.heap.size w u9) := HB2.out
      clear HB2
      have HLI2 : Hid (ListAt u9 a Ms xs) := HLI.out.later kk
      clear HLI
      have HLI : Hid (ListAt u9 a Ms xs) := HLI2.out
      clear HLI2
      have HRM2 : Hid (RowM u9 v0.heap.size (.slice (some ⟨g, 0, none⟩) (N + 1) cap) (ys ++ [⟨99, none, 0, 0, none, 0, 0⟩])) := HRM.out.later kk
      clear HRM
      have HRM : Hid (RowM u9 v0.heap.size (.slice (some ⟨g, 0, none⟩) (N + 1) cap) (ys ++ [⟨99, none, 0, 0, none, 0, 0⟩])) := HRM2.out
      clear HRM2
      have HCS2 : Hid (Cops u9 v0.heap.size Ms ys) := HCS.out.later kk
      clear HCS
      have HCS : Hid (Cops u9 v0.heap.size Ms ys) := HCS2.out
      clear HCS2
      have HP2 : Hid (MaAt (fun _ => True) u9 UO.1 p) := HP.out.later kk
      clear HP
      have HP : Hid (MaAt (fun _ => True) u9 UO.1 p) := HP2.out
      clear HP2
      have HNp2 : Hid (NFB u9 A14 p) := HNp.out.later kk
      clear HNp
      have HNp : Hid (NFB u9 A14 p) := HNp2.out
      clear HNp2
      have HQ2 : Hid (MaAt (fun _ => True) u9 UO.1 q) := HQ.out.later kk
      clear HQ
      have HQ : Hid (MaAt (fun _ => True) u9 UO.1 q) := HQ2.out
      clear HQ2
      rw [hA15] at HNq
      have HWu9 : Hid ((u8.alloc (.cells #[.int .i64 q.S, .slice q.ea q.en q.ec, .slice q.ra q.rn q.rc] 38)) = u9) := hu9
      have HAA15 : Hid (u8.heap.size = A15) := hA15
      clear kk hu9 hA15
      unfold Nf.val
      go_upto_region 18 with fail
      rw [HWu9.out, HAA15.out]
      clear HWu9
      obtain ⟨p0, p1, p2⟩ := HNp.out.cells
      obtain ⟨q0, q1, q2⟩ := HNq.out.cells
      have HC : Hid (Calls Try.prog 19 #[p.val, q.val] u9 _) := same_any u9 HP.out HQ.out (by have := HUB.out; omega) (by have := HUB.out; omega)
      unfold Nf.val at HC
      obtain ⟨ER, hER⟩ : ∃ ER, UO.2 = ER := ⟨_, rfl⟩
      rw [hER]
      clear hER
      go_wp2_with fail
      refine HC.out.mono ?_
      rintro e u10 ⟨rfl, kk⟩
      clear HC p0 p1 p2 q0 q1 q2 HNp HNq HP HQ
      have HB2 : Hid (Below w.heap.size w u10) := below_step HB.out kk
      clear HB
      have HB : Hid (Below w.heap.size w u10) := HB2.out
      clear HB2
      have HLI2 : Hid (ListAt u10 a Ms xs) := HLI.out.later kk
      clear HLI
      have HLI : Hid (ListAt u10 a Ms xs) := HLI2.out
      clear HLI2
      have HRM2 : Hid (RowM u10 v0.heap.size (.slice (some ⟨g, 0, none⟩) (N + 1) cap) (ys ++ [⟨99, none, 0, 0, none, 0, 0⟩])) := HRM.out.later kk
      clear HRM
      have HRM : Hid (RowM u10 v0.heap.size (.slice (some ⟨g, 0, none⟩) (N + 1) cap) (ys ++ [⟨99, none, 0, 0, none, 0, 0⟩])) := HRM2.out
      clear HRM2
      have HCS2 : Hid (Cops u10 v0.heap.size Ms ys) := HCS.out.later kk
      clear HCS
      have HCS : Hid (Cops u10 v0.heap.size Ms ys) := HCS2.out
      clear HCS2
      clear kk
      obtain ⟨b9, off9, h9, c9, _⟩ := (HLA.out u10 HRM.out).nth (i := N) (x := ⟨99, none, 0, 0, none, 0, 0⟩) (by rw [← HYL.out, List.getElem?_append_right (Nat.le_refl _)]; simp)
      cases h9
      simp only [Nat.zero_add] at c9
      have hNlt : (N : Int) < ((N + 1 : Nat) : Int) := by omega
      go_wp2_with fail
      clear c9 hNlt
      obtain ⟨v9, hv9⟩ : ∃ v9 : World, v9 = u10 := ⟨_, rfl⟩
      subst hv9
      go_loopw [93] (fun i u => ∃ j : Nat, i = .int .i64 (j : Nat) ∧ j ≤ N ∧ Hid (Below v9.heap.size v9 u)) (fun i _ => N - (intOf i).toNat)
      case atStart => exact ⟨0, rfl, Nat.zero_le _, Below.refl _ _⟩
      case round =>
        obtain ⟨j, rfl, hj, HBj⟩ := hrel
        by_cases hlj : j < N
        · have hlj' : (j : Int) < (N : Int) := by omega
          have hlj2 : (j : Int) < ((N + 1 : Nat) : Int) := by omega
          have hlj3 : (j : Int) < (N : Int) + 1 := by omega
          obtain ⟨M, hM⟩ : ∃ M, Ms[j]? = some M := ⟨_, List.getElem?_eq_getElem (by rw [HN.out.1]; exact hlj)⟩
          obtain ⟨y, hy⟩ : ∃ y, xs[j]? = some y := ⟨_, List.getElem?_eq_getElem (by rw [HN.out.2]; exact hlj)⟩
          obtain ⟨z, hz⟩ : ∃ z, ys[j]? = some z := ⟨_, List.getElem?_eq_getElem (by rw [HYL.out]; exact hlj)⟩
          have HMS : Hid (M.es.length ≤ 10000000 ∧ M.rs.length ≤ 10000000) := HHAS.out M (List.mem_of_getElem? hM)
          have HLr := HLI.out.later HBj.out
          obtain ⟨b, off, rfl, p0, p1, p2⟩ := HLr.at_.nth hy
          have kk : Below wr.heap.size wr (wr.alloc (.cells #[.int .i64 y.S, .slice y.ea y.en y.ec, .slice y.ra y.rn y.rc] 38)) := (Below.refl _ _).alloc (Nat.le_refl _) _
          have HK1 : Hid (Below v9.heap.size v9 (wr.alloc (.cells #[.int .i64 y.S, .slice y.ea y.en y.ec, .slice y.ra y.rn y.rc] 38))) := below_step HBj.out kk
          have HNY : Hid (NFB (wr.alloc (.cells #[.int .i64 y.S, .slice y.ea y.en y.ec, .slice y.ra y.rn y.rc] 38)) wr.heap.size y) := nfb_new wr y
          have HMy : Hid (MaAt (fun _ => True) (wr.alloc (.cells #[.int .i64 y.S, .slice y.ea y.en y.ec, .slice y.ra y.rn y.rc] 38)) M y) := (HLr.ma j M y hM hy).later kk
          have HCz : Hid (Cop (fun _ => True) (wr.alloc (.cells #[.int .i64 y.S, .slice y.ea y.en y.ec, .slice y.ra y.rn y.rc] 38)) M z) := (HCS.out.later HK1.out j M z hM hz).keep (fun _ _ _ => trivial) (fun _ _ _ => rfl)
          have hrow := (HLA.out _ (HRM.out.later HK1.out)).nth (i := j) (x := z) (by rw [List.getElem?_append_left (by rw [HYL.out]; exact hlj)]; exact hz)
          obtain ⟨b9, off9, h9, r0, r1, r2⟩ := hrow
          cases h9
          simp only [Nat.zero_add] at r0 r1 r2
          clear kk HLr hM hy hz
          go_upto_region 23 with fail
          obtain ⟨u1, hu1⟩ : ∃ u1, wr.alloc (.cells #[.int .i64 y.S, .slice y.ea y.en y.ec, .slice y.ra y.rn y.rc] 38) = u1 := ⟨_, rfl⟩
          obtain ⟨G, hG⟩ : ∃ G, wr.heap.size = G := ⟨_, rfl⟩
          rw [hu1] at HK1 HNY HMy HCz r0 r1 r2 ⊢
          rw [hG] at HNY ⊢
          clear hu1 hG p0 p1 p2
          have HR0 : Hid (u1.cell? ⟨g, j * 3, none⟩ = some (.int .i64 z.S) ∧ u1.cell? ⟨g, j * 3 + 1, none⟩ = some (.slice z.ea z.en z.ec) ∧ u1.cell? ⟨g, j * 3 + 2, none⟩ = some (.slice z.ra z.rn z.rc) ∧ g < u1.heap.size) := ⟨r0, r1, r2, lt_of_cell r0⟩
          clear r0 r1 r2
          have r0 : ∀ u : Later u1, u.at_.cell? ⟨g, j * 3, none⟩ = some (.int .i64 z.S) := fun u => (World.cell?_of_block (a := ⟨g, j * 3, none⟩) (u.below.block g HR0.out.2.2.2)).trans HR0.out.1
          have r1 : ∀ u : Later u1, u.at_.cell? ⟨g, j * 3 + 1, none⟩ = some (.slice z.ea z.en z.ec) := fun u => (World.cell?_of_block (a := ⟨g, j * 3 + 1, none⟩) (u.below.block g HR0.out.2.2.2)).trans HR0.out.2.1
          have r2 : ∀ u : Later u1, u.at_.cell? ⟨g, j * 3 + 2, none⟩ = some (.slice z.ra z.rn z.rc) := fun u => (World.cell?_of_block (a := ⟨g, j * 3 + 2, none⟩) (u.below.block g HR0.out.2.2.2)).trans HR0.out.2.2.1
          have s0 : ∀ u : Later u1, u.at_.cell? ⟨G, 0, none⟩ = some (.int .i64 y.S) := fun u => (HNY.out.later u.below).cells.1
          have s1 : ∀ u : Later u1, u.at_.cell? ⟨G, 1, none⟩ = some (.slice y.ea y.en y.ec) := fun u => (HNY.out.later u.below).cells.2.1
          have s2 : ∀ u : Later u1, u.at_.cell? ⟨G, 2, none⟩ = some (.slice y.ra y.rn y.rc) := fun u => (HNY.out.later u.below).cells.2.2
          obtain ⟨v, hv⟩ : ∃ v, rightOf M = v := ⟨_, rfl⟩
          have HC1 : Hid (∀ u : Later u1, Calls Try.prog 12 #[z.val] u.at_ fun e w' => e = .returned (.bool v) ∧ Below u.at_.heap.size u.at_ w') := fun u => by have h := HRt.out M z u.at_ (HCz.out.later u.below).ma HMS.out.1 HMS.out.2; rw [hv] at h; exact h
          have HC2 : Hid (∀ u : Later u1, Calls Try.prog 23 #[y.val] u.at_ fun e w' => e = .returned (.bool v) ∧ Below u.at_.heap.size u.at_ w') := fun u => by have h := right_any u.at_ (HMy.out.later u.below) (by have := HMS.out.1; omega); rw [hv] at h; exact h
          have HC3 : Hid (∀ u : Later u1, Calls Try.prog 24 #[z.val, y.val] u.at_ fun e w' => e = .returned (.bool true) ∧ Below u.at_.heap.size u.at_ w') := fun u => kept_any u.at_ (HCz.out.later u.below) (HMy.out.later u.below) HMS.out.1 HMS.out.2
          have hne : Nonempty (Later u1) := ⟨⟨u1, Below.refl _ _⟩⟩
          unfold Nf.val at HC1 HC2 HC3
          clear hv
          cases v with
          | false =>
            refine wp_region_later (by kernel_rfl) (by kernel_rfl) ?_
            repeat (first
              | go_big_quiet_step ((first | (go_at_call 12; exact calls_later (HC1.out _)) | (go_at_call 23; exact calls_later (HC2.out _)) | (go_at_call 24; exact calls_later (HC3.out _))))
              | quiet_step ((first | (go_at_call 12; exact calls_later (HC1.out _)) | (go_at_call 23; exact calls_later (HC2.out _)) | (go_at_call 24; exact calls_later (HC3.out _)))))
            refine wpQuiet_nil ?_
            intro _ hw'
            obtain ⟨u, hw''⟩ := hw'
            subst hw''
            have HKu : Hid (Below v9.heap.size v9 u.at_) := below_step HK1.out u.below
            go_wp2
            go_roundw
            case rel => exact ⟨j + 1, by go_num, by omega, HKu⟩
            case measure => simp [intOf]; omega
          | true =>
            refine wp_region_later (by kernel_rfl) (by kernel_rfl) ?_
            repeat (first
              | go_big_quiet_step ((first | (go_at_call 12; exact calls_later (HC1.out _)) | (go_at_call 23; exact calls_later (HC2.out _)) | (go_at_call 24; exact calls_later (HC3.out _))))
              | quiet_step ((first | (go_at_call 12; exact calls_later (HC1.out _)) | (go_at_call 23; exact calls_later (HC2.out _)) | (go_at_call 24; exact calls_later (HC3.out _)))))
            refine wpQuiet_nil ?_
            intro _ hw'
            obtain ⟨u, hw''⟩ := hw'
            subst hw''
            have HKu : Hid (Below v9.heap.size v9 u.at_) := below_step HK1.out u.below
            go_wp2
            go_roundw
            case rel => exact ⟨j + 1, by go_num, by omega, HKu⟩
            case measure => simp [intOf]; omega
        · have hlj' : ¬ (j : Int) < (N : Int) := by omega
          have HBz : Hid (Below w.heap.size w wr) := below_step HB.out HBj.out
          go_wp2
          go_ret
          exact ⟨rfl, HBz.out⟩
end Go.Proofs.Ytjmbimgofceanaa
