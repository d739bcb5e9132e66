
import Derived.Test.YtmjnobdlgbojoaaGreatDoorG45
import Derived.Test.YtmjnobdlgbojoaaGreatDoorG39
import Derived.Deep.RegionWith
namespace Go.Proofs.YtmjnobdlgbojoaaGreatDoor
open Go.RowKit
attribute [local go_sem ↓] Go.wp_at_zero Go.wp_at_succ
theorem List.good_snoc {ts : List Tr} {t : Tr} (h : ∀ t ∈ ts, Good 1025 t) (ht : Good 1025 t) : ∀ u ∈ ts ++ [t], Good 1025 u := fun u hu => by
  rcases List.mem_append.1 hu with h1 | h1
  · exact h u h1
  · simp at h1
    subst h1
    exact ht
set_option maxRecDepth 8000 in
set_option maxHeartbeats 64000000 in
theorem pieces_any {ps ls : List ByteArray} {pa la : Option Addr} {n c m d : Nat} (w : World) (gm : GM w) (tb : Tab w) (hps : StrAt w pa ps) (hpn : ps.length = n) (hls : StrAt w la ls) (hlm : ls.length = m) (hn : n ≤ 8796093022000) (hm : m ≤ 8796093022000) (hsz : ∀ s ∈ ls, s.size ≤ maxLen) :
    Calls Tryz.prog 3 #[.slice pa n c, .slice la m d] w fun e w' => e = .returned (.bool true) ∧ Below w.heap.size w w' := by
  have HPN : Hid (ps.length = n) := hpn
  have HLM : Hid (ls.length = m) := hlm
  have HPS : Hid (StrAt w pa ps) := hps
  have HLS : Hid (StrAt w la ls) := hls
  have HGM : Hid (GM w) := gm
  have HTB : Hid (Tab w) := tb
  have HSZ : Hid (∀ s ∈ ls, s.size ≤ maxLen) := hsz
  have HFX : Hid (Calls Tryz.prog 4 #[] w fun e w' => e = .returned (.bool true) ∧ Below w.heap.size w w') := fixed_any w tb
  clear gm tb hps hpn hls hlm hsz
  go_enter Tryz.func3, Tryz.ntmps3
  go_wp2_with fail
  refine HFX.out.mono ?_
  rintro e w1 ⟨rfl, k1⟩
  have HS0 : Hid (Spc w w1 (.slice none 0 0) (.slice none 0 0) [] [] [] []) := ⟨⟨rfl, Or.inl ⟨rfl, rfl⟩⟩, rowM_nil _ _, fun k t x h => (by simp at h), fun k M y h => (by simp at h), fun b hb => (by simp [Value.ownBlock] at hb), rfl, rfl, k1⟩
  clear k1 HFX
  go_wp2_with fail
  go_loopw [5, 6, 7] (fun v5 v6 q u => ∃ (j K : Nat) (a6 : Option Addr) (c6 : Nat) (ts : List Tr) (xs : List Nd) (Ms : List Ma) (ys : List Nf), q = .int .i64 (j : Nat) ∧ v6 = .slice a6 K c6 ∧ j ≤ n ∧ K ≤ 4 ∧ Hid (Ms.length = K) ∧ Hid (Spc w u v5 (.slice a6 K c6) ts xs Ms ys) ∧ Hid (Gath (ts.map up) Ms) ∧ Hid (∀ t ∈ ts, Good 1025 t)) (fun _ _ q _ => n - (intOf q).toNat)
  case atStart => exact ⟨0, 0, none, 0, [], [], [], [], rfl, rfl, Nat.zero_le _, by omega, rfl, HS0, gath_nil, fun t h => by cases h⟩
  case round =>
    clear HS0
    obtain ⟨j, K, a6, c6, ts, xs, Ms, ys, rfl, rfl, hjn, hK4, HKM, HSP, HGA, HGD⟩ := hrel
    obtain ⟨tt, htt⟩ : ∃ tb : Bool, tb = (decide (j < n) && decide (K < 4)) := ⟨_, rfl⟩
    have HTT : Hid (tt = (decide (j < n) && decide (K < 4))) := htt
    obtain ⟨u1, hu1⟩ : ∃ u1, u1 = wr := ⟨_, rfl⟩
    subst hu1
    clear htt
    go_upto_region 6 with fail
    go_cut [26] from 18 to 57 (fun v wx => v = .bool tt ∧ wx = u1)
    case first =>
      by_cases h1 : j < n
      · have h1' : (j : Int) < (n : Int) := by omega
        by_cases h2 : K < 4
        · have h2' : (K : Int) < 4 := by omega
          have hv : tt = true := by rw [HTT.out]; simp [h1, h2]
          clear h1 h2
          go_wp2_with fail
          go_meet
          case rel => exact ⟨by rw [hv], rfl⟩
        · have h2' : ¬ (K : Int) < 4 := by omega
          have hv : tt = false := by rw [HTT.out]; simp [h2]
          clear h1 h2
          go_wp2_with fail
          go_meet
          case rel => exact ⟨by rw [hv], rfl⟩
      · have h1' : ¬ (j : Int) < (n : Int) := by omega
        have hv : tt = false := by rw [HTT.out]; simp [h1]
        clear h1
        go_wp2_with fail
        go_meet
        case rel => exact ⟨by rw [hv], rfl⟩
    case rest =>
    obtain ⟨rfl, hwc⟩ := hcut
    subst hwc
    cases tt with
    | true =>
      have hjK : j < n ∧ K < 4 := by have h := HTT.out.symm; simpa using h
      obtain ⟨h1, h2⟩ := hjK
      have h1' : (j : Int) < (n : Int) := by omega
      have h2' : (K : Int) < 4 := by omega
      clear HTT
      obtain ⟨s, hsj⟩ : ∃ s, ps[j]? = some s := ⟨_, List.getElem?_eq_getElem (by rw [HPN.out]; omega)⟩
      obtain ⟨b, off, rfl, hcell⟩ := (HPS.out.later HSP.out.low).nth hsj
      clear hsj
      have HC : Hid (Calls Tryz.prog 5 #[.string s] wc (ParsePost wc s)) := Parse_any s wc (HGM.out.later HSP.out.low)
      go_wp2_with fail
      refine HC.out.mono ?_
      intro e w3 hp
      unfold ParsePost at hp
      obtain ⟨k3, hp⟩ := hp
      clear HC hcell
      cases hcs : parseOf s with
      | out => rw [hcs] at hp; exact hp.elim
      | bad i0 c0 =>
        rw [hcs] at hp
        simp only at hp
        subst hp
        have hc0 : ((c0 : Int) != 0) = true := by have := read_bad hcs; simp; omega
        have hc1 : ((c0 : Int) == 0) = false := by have := read_bad hcs; simp; omega
        obtain ⟨x, hx⟩ : ∃ x : Nd, x = zeroNd := ⟨_, rfl⟩
        rw [← hx]
        have HS3 : Hid (∀ u, Below w3.heap.size w3 u → Spc w u u5 (.slice a6 K c6) ts xs Ms ys) := fun u hu => (HSP.out.later k3).later hu
        have kk : Below w3.heap.size w3 (w3.alloc (.cells #[.int .i64 x.k, .int .u64 (Oct.word x.s 0 : Nat), .int .u64 (Oct.word x.s 1 : Nat), .int .u64 (Oct.word x.s 2 : Nat), .int .u64 (Oct.word x.s 3 : Nat), .slice x.a x.n x.c, .int .i64 x.mn, .int .i64 x.mx] 30)) := (Below.refl _ _).alloc (Nat.le_refl _) _
        have HS4 : Hid (Spc w (w3.alloc (.cells #[.int .i64 x.k, .int .u64 (Oct.word x.s 0 : Nat), .int .u64 (Oct.word x.s 1 : Nat), .int .u64 (Oct.word x.s 2 : Nat), .int .u64 (Oct.word x.s 3 : Nat), .slice x.a x.n x.c, .int .i64 x.mn, .int .i64 x.mx] 30)) u5 (.slice a6 K c6) ts xs Ms ys) := HS3.out _ kk
        clear kk hx hcs k3 HS3
        unfold Nd.val
        go_wp2
        go_roundw
        case rel => exact ⟨j + 1, K, a6, c6, ts, xs, Ms, ys, by go_num, rfl, by omega, hK4, HKM, HS4, HGA, HGD⟩
        case measure => simp [intOf]; omega
      | ok t jj =>
        rw [hcs] at hp
        simp only at hp
        obtain ⟨x, rfl, hx⟩ := hp
        have HPM : Hid (Pm (7 * K) (up t) (Go.Proofs.YtmjnobdlgbojoaaGreatDoor.mach (up t) (7 * K))) := parse_pm hcs (7 * K) (by omega)
        have HGT : Hid (Good 1025 t) := (parse_ok hcs).2.2.2.2.1
        have HX3 : Hid (NodeAt (Xs u5 (.slice a6 K c6)) w3 t x) := hx.keep (fun b hb _ => HSP.out.fresh hb) (fun _ _ _ => rfl)
        have HS3 : Hid (Spc w w3 u5 (.slice a6 K c6) ts xs Ms ys) := HSP.out.later k3
        clear hx hcs k3 HSP
        have kk : Below w3.heap.size w3 (w3.alloc (.cells #[.int .i64 x.k, .int .u64 (Oct.word x.s 0 : Nat), .int .u64 (Oct.word x.s 1 : Nat), .int .u64 (Oct.word x.s 2 : Nat), .int .u64 (Oct.word x.s 3 : Nat), .slice x.a x.n x.c, .int .i64 x.mn, .int .i64 x.mx] 30)) := (Below.refl _ _).alloc (Nat.le_refl _) _
        have HN4 : Hid (NB (w3.alloc (.cells #[.int .i64 x.k, .int .u64 (Oct.word x.s 0 : Nat), .int .u64 (Oct.word x.s 1 : Nat), .int .u64 (Oct.word x.s 2 : Nat), .int .u64 (Oct.word x.s 3 : Nat), .slice x.a x.n x.c, .int .i64 x.mn, .int .i64 x.mx] 30)) w3.heap.size x) := nb_new w3 x
        have HX4 : Hid (NodeAt (Xs u5 (.slice a6 K c6)) (w3.alloc (.cells #[.int .i64 x.k, .int .u64 (Oct.word x.s 0 : Nat), .int .u64 (Oct.word x.s 1 : Nat), .int .u64 (Oct.word x.s 2 : Nat), .int .u64 (Oct.word x.s 3 : Nat), .slice x.a x.n x.c, .int .i64 x.mn, .int .i64 x.mx] 30)) t x) := HX3.out.later kk
        have HS4 : Hid (Spc w (w3.alloc (.cells #[.int .i64 x.k, .int .u64 (Oct.word x.s 0 : Nat), .int .u64 (Oct.word x.s 1 : Nat), .int .u64 (Oct.word x.s 2 : Nat), .int .u64 (Oct.word x.s 3 : Nat), .slice x.a x.n x.c, .int .i64 x.mn, .int .i64 x.mx] 30)) u5 (.slice a6 K c6) ts xs Ms ys) := HS3.out.later kk
        unfold Nd.val
        go_upto_region 10 with fail
        obtain ⟨w4, hw4⟩ : ∃ w4, (w3.alloc (.cells #[.int .i64 x.k, .int .u64 (Oct.word x.s 0 : Nat), .int .u64 (Oct.word x.s 1 : Nat), .int .u64 (Oct.word x.s 2 : Nat), .int .u64 (Oct.word x.s 3 : Nat), .slice x.a x.n x.c, .int .i64 x.mn, .int .i64 x.mx] 30)) = w4 := ⟨_, rfl⟩
        obtain ⟨A8, hA8⟩ : ∃ A8, w3.heap.size = A8 := ⟨_, rfl⟩
        rw [hw4] at HN4 HX4 HS4 ⊢
        rw [hA8] at HN4 ⊢
        clear hw4 hA8 kk HX3 HS3
        obtain ⟨y0, y1, y2, y3, y4, y5, y6, y7⟩ := HN4.out.cells
        have HC : Hid (Calls Tryz.prog 6 #[x.val, .int .i64 (7 * (K : Int))] w4 (BuildPost w4 (up t) (7 * (K : Int)))) := build_ok (up t) x w4 _ (HX4.out.inA (N := 1025) (by decide) (by decide) HGT.out)
        unfold Nd.val at HC
        go_wp2_with fail
        refine HC.out.mono ?_
        rintro e w5 ⟨k5, y, rfl, hm5⟩
        have e7 : (7 * (K : Int)) = ((7 * K : Nat) : Int) := by omega
        rw [e7, HPM.out.built] at hm5 ⊢
        simp only at hm5 ⊢
        obtain ⟨M, hM⟩ : ∃ M, Go.Proofs.YtmjnobdlgbojoaaGreatDoor.mach (up t) (7 * K) = M := ⟨_, rfl⟩
        rw [hM] at hm5 HPM
        have HM5 : Hid (MaAt (Xs u5 (.slice a6 K c6)) w5 M y) := hm5.keep (fun b hb _ => HS4.out.fresh hb.1) (fun _ _ _ => rfl)
        have HS5 : Hid (Spc w w5 u5 (.slice a6 K c6) ts xs Ms ys) := HS4.out.later k5
        have HX5 : Hid (NodeAt (Xs u5 (.slice a6 K c6)) w5 t x) := HX4.out.later k5
        have HN5 : Hid (NB w5 A8 x) := HN4.out.later k5
        clear e7 hM hm5 k5 HC HS4 HX4 HN4 y0 y1 y2 y3 y4 y5 y6 y7
        have kk : Below w5.heap.size w5 (w5.alloc (.cells #[.int .i64 y.S, .slice y.ea y.en y.ec, .slice y.ra y.rn y.rc] 37)) := (Below.refl _ _).alloc (Nat.le_refl _) _
        have HY6 : Hid (NFB (w5.alloc (.cells #[.int .i64 y.S, .slice y.ea y.en y.ec, .slice y.ra y.rn y.rc] 37)) w5.heap.size y) := nfb_new w5 y
        have HM6 : Hid (MaAt (Xs u5 (.slice a6 K c6)) (w5.alloc (.cells #[.int .i64 y.S, .slice y.ea y.en y.ec, .slice y.ra y.rn y.rc] 37)) M y) := HM5.out.keep (fun _ h _ => h) (fun b _ hlt => kk.block b hlt)
        have HS6 : Hid (Spc w (w5.alloc (.cells #[.int .i64 y.S, .slice y.ea y.en y.ec, .slice y.ra y.rn y.rc] 37)) u5 (.slice a6 K c6) ts xs Ms ys) := HS5.out.later kk
        have HX6 : Hid (NodeAt (Xs u5 (.slice a6 K c6)) (w5.alloc (.cells #[.int .i64 y.S, .slice y.ea y.en y.ec, .slice y.ra y.rn y.rc] 37)) t x) := HX5.out.later kk
        have HN6 : Hid (NB (w5.alloc (.cells #[.int .i64 y.S, .slice y.ea y.en y.ec, .slice y.ra y.rn y.rc] 37)) A8 x) := HN5.out.later kk
        have HAF : Hid (∀ b, u5.ownBlock = some b → b < w5.heap.size) := fun b hb => (HS5.out.r5.ty b hb).2
        unfold Nf.val
        simp only [Int.natCast_zero]
        go_upto_region 13 with fail
        obtain ⟨w6, hw6⟩ : ∃ w6, (w5.alloc (.cells #[.int .i64 y.S, .slice y.ea y.en y.ec, .slice y.ra y.rn y.rc] 37)) = w6 := ⟨_, rfl⟩
        obtain ⟨A, hA⟩ : ∃ A, w5.heap.size = A := ⟨_, rfl⟩
        rw [hw6] at HY6 HM6 HS6 HX6 HN6 ⊢
        rw [hA] at HY6 HAF ⊢
        clear hw6 hA kk HM5 HS5 HX5 HN5
        obtain ⟨y0, y1, y2, y3, y4, y5, y6, y7⟩ := HN6.out.cells
        have kk : Below w6.heap.size w6 (w6.alloc (.cells #[.int .i64 x.k, .int .u64 (Oct.word x.s 0 : Nat), .int .u64 (Oct.word x.s 1 : Nat), .int .u64 (Oct.word x.s 2 : Nat), .int .u64 (Oct.word x.s 3 : Nat), .slice x.a x.n x.c, .int .i64 x.mn, .int .i64 x.mx] 30)) := (Below.refl _ _).alloc (Nat.le_refl _) _
        have HY7 : Hid (NFB (w6.alloc (.cells #[.int .i64 x.k, .int .u64 (Oct.word x.s 0 : Nat), .int .u64 (Oct.word x.s 1 : Nat), .int .u64 (Oct.word x.s 2 : Nat), .int .u64 (Oct.word x.s 3 : Nat), .slice x.a x.n x.c, .int .i64 x.mn, .int .i64 x.mx] 30)) A y) := HY6.out.later kk
        have HM7 : Hid (MaAt (Xs u5 (.slice a6 K c6)) (w6.alloc (.cells #[.int .i64 x.k, .int .u64 (Oct.word x.s 0 : Nat), .int .u64 (Oct.word x.s 1 : Nat), .int .u64 (Oct.word x.s 2 : Nat), .int .u64 (Oct.word x.s 3 : Nat), .slice x.a x.n x.c, .int .i64 x.mn, .int .i64 x.mx] 30)) M y) := HM6.out.keep (fun _ h _ => h) (fun b _ hlt => kk.block b hlt)
        have HS7 : Hid (Spc w (w6.alloc (.cells #[.int .i64 x.k, .int .u64 (Oct.word x.s 0 : Nat), .int .u64 (Oct.word x.s 1 : Nat), .int .u64 (Oct.word x.s 2 : Nat), .int .u64 (Oct.word x.s 3 : Nat), .slice x.a x.n x.c, .int .i64 x.mn, .int .i64 x.mx] 30)) u5 (.slice a6 K c6) ts xs Ms ys) := HS6.out.later kk
        have HX7 : Hid (NodeAt (Xs u5 (.slice a6 K c6)) (w6.alloc (.cells #[.int .i64 x.k, .int .u64 (Oct.word x.s 0 : Nat), .int .u64 (Oct.word x.s 1 : Nat), .int .u64 (Oct.word x.s 2 : Nat), .int .u64 (Oct.word x.s 3 : Nat), .slice x.a x.n x.c, .int .i64 x.mn, .int .i64 x.mx] 30)) t x) := HX6.out.later kk
        have HCC7 : Hid (∀ j v, x.cells[j]? = some v → (w6.alloc (.cells #[.int .i64 x.k, .int .u64 (Oct.word x.s 0 : Nat), .int .u64 (Oct.word x.s 1 : Nat), .int .u64 (Oct.word x.s 2 : Nat), .int .u64 (Oct.word x.s 3 : Nat), .slice x.a x.n x.c, .int .i64 x.mn, .int .i64 x.mx] 30)).cell? ((⟨w6.heap.size, 0, none⟩ : Addr).add j) = some v) := cells_newN w6 x
        have HZ7 : Hid (w.heap.size ≤ (w6.alloc (.cells #[.int .i64 x.k, .int .u64 (Oct.word x.s 0 : Nat), .int .u64 (Oct.word x.s 1 : Nat), .int .u64 (Oct.word x.s 2 : Nat), .int .u64 (Oct.word x.s 3 : Nat), .slice x.a x.n x.c, .int .i64 x.mn, .int .i64 x.mx] 30)).heap.size) := HS7.out.low.size
        have HXL : Hid (xs.length = K) := by have h1 := HS7.out.xl; have h2 := HGA.out.l; have h3 := HKM.out; simp at h2; show _ = _; omega
        have HYL : Hid (ys.length = K) := by have h1 := HS7.out.yl; have h3 := HKM.out; show _ = _; omega
        clear kk HY6 HM6 HS6 HX6 HN6
        go_upto_region 14 with (at_builtin; go_must (refine wpList_append_nd rfl _ _ rfl w.heap.size K _ xs rfl HXL.out HS7.out.r5 ⟨w6.heap.size, 0, none⟩ 1 x rfl HCC7.out (by omega) HZ7.out ?_; intro g cap w8 hr8 hg8 hgg8; have HR8 : Hid (RowN5 w8 w.heap.size (.slice (some ⟨g, 0, none⟩) (K + 1) cap) (xs ++ [x])) := hr8; have HG8 : Hid ((w6.alloc (.cells #[.int .i64 x.k, .int .u64 (Oct.word x.s 0 : Nat), .int .u64 (Oct.word x.s 1 : Nat), .int .u64 (Oct.word x.s 2 : Nat), .int .u64 (Oct.word x.s 3 : Nat), .slice x.a x.n x.c, .int .i64 x.mn, .int .i64 x.mx] 30)).grownBy w8 u5.ownBlock ∧ (u5.ownBlock = some g ∨ (w6.alloc (.cells #[.int .i64 x.k, .int .u64 (Oct.word x.s 0 : Nat), .int .u64 (Oct.word x.s 1 : Nat), .int .u64 (Oct.word x.s 2 : Nat), .int .u64 (Oct.word x.s 3 : Nat), .slice x.a x.n x.c, .int .i64 x.mn, .int .i64 x.mx] 30)).heap.size ≤ g)) := ⟨hg8, hgg8⟩; clear hr8 hg8 hgg8))
        obtain ⟨q1, q2⟩ := Xs.first (V6 := .slice a6 K c6) (n := K + 1) (cap := cap) HG8.out.1 HG8.out.2
        have HS8 : Hid (Spc w w8 (.slice (some ⟨g, 0, none⟩) (K + 1) cap) (.slice a6 K c6) (ts ++ [t]) (xs ++ [x]) Ms ys) := HS7.out.tree HX7.out HR8.out HG8.out.1 HG8.out.2
        have HM8 : Hid (MaAt (Xs (.slice (some ⟨g, 0, none⟩) (K + 1) cap) (.slice a6 K c6)) w8 M y) := HM7.out.keep q1 q2
        have HY8 : Hid (NFB w8 A y) := (HG8.out.1.block A HY7.out.lt (fun e => by have := HAF.out A e.symm; omega)).trans HY7.out
        clear q1 q2 HS7 HM7 HX7 HCC7 HZ7 HR8 HG8 HAF HY7 y0 y1 y2 y3 y4 y5 y6 y7
        obtain ⟨z0, z1, z2⟩ := HY8.out.cells
        have kk : Below w8.heap.size w8 (w8.alloc (.cells #[.int .i64 y.S, .slice y.ea y.en y.ec, .slice y.ra y.rn y.rc] 37)) := (Below.refl _ _).alloc (Nat.le_refl _) _
        have HS9 : Hid (Spc w (w8.alloc (.cells #[.int .i64 y.S, .slice y.ea y.en y.ec, .slice y.ra y.rn y.rc] 37)) (.slice (some ⟨g, 0, none⟩) (K + 1) cap) (.slice a6 K c6) (ts ++ [t]) (xs ++ [x]) Ms ys) := HS8.out.later kk
        have HM9 : Hid (MaAt (Xs (.slice (some ⟨g, 0, none⟩) (K + 1) cap) (.slice a6 K c6)) (w8.alloc (.cells #[.int .i64 y.S, .slice y.ea y.en y.ec, .slice y.ra y.rn y.rc] 37)) M y) := HM8.out.keep (fun _ h _ => h) (fun b _ hlt => kk.block b hlt)
        have HCC9 : Hid (∀ j v, y.cells[j]? = some v → (w8.alloc (.cells #[.int .i64 y.S, .slice y.ea y.en y.ec, .slice y.ra y.rn y.rc] 37)).cell? ((⟨w8.heap.size, 0, none⟩ : Addr).add j) = some v) := cells_newM w8 y
        have HZ9 : Hid (w.heap.size ≤ (w8.alloc (.cells #[.int .i64 y.S, .slice y.ea y.en y.ec, .slice y.ra y.rn y.rc] 37)).heap.size) := HS9.out.low.size
        clear kk HS8 HM8 HY8
        go_upto_region 7 with (at_builtin; go_must (refine wpList_append_nf2 rfl _ _ rfl w.heap.size K _ ys rfl HYL.out HS9.out.r6 ⟨w8.heap.size, 0, none⟩ 1 y rfl HCC9.out (by omega) HZ9.out ?_; intro g2 cap2 wA hrA hgA hggA; have HRA : Hid (RowM wA w.heap.size (.slice (some ⟨g2, 0, none⟩) (K + 1) cap2) (ys ++ [y])) := hrA; have HGR : Hid ((w8.alloc (.cells #[.int .i64 y.S, .slice y.ea y.en y.ec, .slice y.ra y.rn y.rc] 37)).grownBy wA (Value.slice a6 K c6).ownBlock ∧ ((Value.slice a6 K c6).ownBlock = some g2 ∨ (w8.alloc (.cells #[.int .i64 y.S, .slice y.ea y.en y.ec, .slice y.ra y.rn y.rc] 37)).heap.size ≤ g2)) := ⟨hgA, hggA⟩; clear hrA hgA hggA))
        have HSA : Hid (Spc w wA (.slice (some ⟨g, 0, none⟩) (K + 1) cap) (.slice (some ⟨g2, 0, none⟩) (K + 1) cap2) (ts ++ [t]) (xs ++ [x]) (Ms ++ [M]) (ys ++ [y])) := HS9.out.mach HM9.out HRA.out HGR.out.1 HGR.out.2
        have HGA2 : Hid (Gath ((ts ++ [t]).map up) (Ms ++ [M])) := by
          have h := HGA.out.snoc (t := up t) (M := M) (by rw [HKM.out]; exact h2) (by rw [HKM.out]; exact HPM.out)
          show Gath _ _
          rw [List.map_append]
          exact h
        have HGD2 : Hid (∀ u ∈ ts ++ [t], Good 1025 u) := List.good_snoc HGD.out HGT.out
        have HKM2 : Hid ((Ms ++ [M]).length = K + 1) := by show _ = _; rw [List.length_append, HKM.out]; rfl
        clear HS9 HM9 HCC9 HZ9 HRA HGR z0 z1 z2 HGA HGD HKM
        go_wp2
        go_roundw
        case rel => exact ⟨j + 1, K + 1, some ⟨g2, 0, none⟩, cap2, ts ++ [t], xs ++ [x], Ms ++ [M], ys ++ [y], by go_num, rfl, by omega, by omega, HKM2, HSA, HGA2, HGD2⟩
        case measure => simp [intOf]; omega
    | false =>
      clear HTT
      obtain ⟨a6', c6', e6, hle6, hmx6, hat6⟩ := HSP.out.r6.form
      obtain ⟨-, -, -⟩ := Value.slice.inj e6
      have HCU : Hid (Calls Tryz.prog 7 #[.slice a6 K c6] wc (UnionPost wc Ms)) := by
        have h1 := HSP.out.yl
        have h2 := HKM.out
        have h3 := HGA.out.size
        have h4 := union_ok Ms ys a6' c6' wc ⟨hat6, h1, fun i M y hM hy => (HSP.out.m i M y hM hy).keep (fun _ _ _ => trivial) (fun _ _ _ => rfl)⟩ (by omega) hmx6 (by omega) (by unfold uni at h3; omega) (by unfold uni at h3; omega)
        rw [e6, h1]
        exact h4
      have HBT : Hid (unionOf Ms = (uni Ms, 0)) := HGA.out.built
      clear e6 hle6 hmx6 hat6
      go_wp2_with fail
      refine HCU.out.mono ?_
      rintro e w3 ⟨k3, z, rfl, hm3⟩
      rw [HBT.out] at hm3 ⊢
      simp only at hm3 ⊢
      have HM3 : Hid (MaAt (fun _ => True) w3 (uni Ms) z) := hm3.keep (fun _ _ _ => trivial) (fun _ _ _ => rfl)
      have HS3 : Hid (Spc w w3 u5 (.slice a6 K c6) ts xs Ms ys) := HSP.out.later k3
      clear hm3 k3 HCU HSP HBT
      have kk : Below w3.heap.size w3 (w3.alloc (.cells #[.int .i64 z.S, .slice z.ea z.en z.ec, .slice z.ra z.rn z.rc] 37)) := (Below.refl _ _).alloc (Nat.le_refl _) _
      have HNZ : Hid (NFB (w3.alloc (.cells #[.int .i64 z.S, .slice z.ea z.en z.ec, .slice z.ra z.rn z.rc] 37)) w3.heap.size z) := nfb_new w3 z
      have HM4 : Hid (MaAt (fun _ => True) (w3.alloc (.cells #[.int .i64 z.S, .slice z.ea z.en z.ec, .slice z.ra z.rn z.rc] 37)) (uni Ms) z) := HM3.out.later kk
      have HS4 : Hid (Spc w (w3.alloc (.cells #[.int .i64 z.S, .slice z.ea z.en z.ec, .slice z.ra z.rn z.rc] 37)) u5 (.slice a6 K c6) ts xs Ms ys) := HS3.out.later kk
      unfold Nf.val
      simp only [Int.natCast_zero]
      go_upto_region 18 with fail
      obtain ⟨w4, hw4⟩ : ∃ w4, (w3.alloc (.cells #[.int .i64 z.S, .slice z.ea z.en z.ec, .slice z.ra z.rn z.rc] 37)) = w4 := ⟨_, rfl⟩
      obtain ⟨A, hA⟩ : ∃ A, w3.heap.size = A := ⟨_, rfl⟩
      rw [hw4] at HNZ HM4 HS4 ⊢
      rw [hA] at HNZ ⊢
      clear hw4 hA kk HM3 HS3
      have HSA : Hid (StrAt (w4.alloc (.cells #[.string ⟨#[]⟩] 9)) la ls) := HLS.out.later (below_step HS4.out.low ((Below.refl _ _).alloc (Nat.le_refl _) _))
      go_upto_region 19 with (at_builtin; go_must (refine wpList_append_str rfl _ _ rfl w4 rfl rfl la m d ls HLM.out rfl HSA.out hm ?_; intro g cap w6 hb6 hst6; have HB6 : Hid (Below w4.heap.size w4 w6) := hb6; have HST : Hid (StrAt w6 (some ⟨g, 0, none⟩) (⟨#[]⟩ :: ls)) := hst6; clear hb6 hst6))
      have HL6 : Hid (Below w.heap.size w w6) := below_step HS4.out.low HB6.out
      obtain ⟨ta, tc, la6, lc6, e5, e6, hgm⟩ := (HS4.out.later HB6.out).gm HGA.out HGD.out (HM4.out.later HB6.out) (HTB.out.later HL6.out)
      have HGMM : Hid (Gm w6 (ts.map up) Ms ta la6 xs ys z) := hgm
      have HN6 : Hid (NFB w6 A z) := HNZ.out.later HB6.out
      have HK6 : Hid (K = (ts.map up).length) := by show _ = _; rw [HGA.out.l, HKM.out]
      rw [HKM.out] at e5 e6
      subst e5
      obtain ⟨e61, -, e63⟩ := Value.slice.inj e6
      subst e61 e63
      clear e6 hgm HSA HNZ HM4 HS4 HB6 HGA HGD HKM
      go_wp2_with fail
      go_loopw [15] (fun q u => ∃ j : Nat, q = .int .i64 (j : Nat) ∧ j ≤ 1 + m ∧ j ≤ 6 ∧ Hid (Below w6.heap.size w6 u)) (fun q _ => 6 - (intOf q).toNat)
      case atStart => exact ⟨0, rfl, Nat.zero_le _, by omega, Below.refl _ _⟩
      case round =>
        obtain ⟨j2, rfl, hj1, hj6, HBR⟩ := hrel
        by_cases h1 : j2 < 1 + m
        · have h1' : (j2 : Int) < 1 + (m : Int) := by omega
          by_cases h2 : j2 < 6
          · have h2' : (j2 : Int) < 6 := by omega
            obtain ⟨s, hsj⟩ : ∃ s, ((⟨#[]⟩ : ByteArray) :: ls)[j2]? = some s := ⟨_, List.getElem?_eq_getElem (by have := HLM.out; simp; omega)⟩
            have hss : s.size ≤ maxLen := by
              have h := List.mem_of_getElem? hsj
              rcases List.mem_cons.1 h with h | h
              · rw [h]; decide
              · exact HSZ.out s h
            obtain ⟨b9, off9, hab, hcell⟩ := (HST.out.later HBR.out).nth hsj
            cases hab
            rw [Nat.zero_add] at hcell
            obtain ⟨b0, b1, b2⟩ := (HN6.out.later HBR.out).cells
            obtain ⟨u2, hu2⟩ : ∃ u2, u2 = wr := ⟨_, rfl⟩
            subst hu2
            have HSH : Hid (∀ u, Calls Tryz.prog 9 #[.string s] u fun e w' => ∃ t : ByteArray, e = .returned (.string t) ∧ t.size ≤ 8 ∧ Below u.heap.size u w') := fun u => lshort_any s u hss
            have HMT : Hid (∀ (t : ByteArray) (u : World), t.size ≤ 8 → Below u2.heap.size u2 u → Calls Tryz.prog 8 #[.slice ta K tc, .slice a6 K c6, .agg #[.int .i64 z.S, .slice z.ea z.en z.ec, .slice z.ra z.rn z.rc], .string t] u fun e w' => e = .returned (.bool true) ∧ Below u.heap.size u w') := fun t u h8 hu => lmeets_any K tc c6 t u (HGMM.out.later (below_step HBR.out hu)) HK6.out h8
            clear hsj hss
            go_upto_region 22 with fail
            go_cut [87] from 68 to 87 (fun v wx => v = .bool false ∧ Hid (Below u2.heap.size u2 wx))
            case first =>
              go_region_with (first
                | (go_at_call 9; refine (HSH.out _).mono ?_; rintro e u3 ⟨t3, rfl, h8, hu3⟩; have HU3 : Hid (Below u2.heap.size u2 u3 ∧ t3.size ≤ 8) := ⟨((Below.refl _ u2).drew).trans hu3, h8⟩; have b0 := (HU3.out.1.cell (p := ⟨A, 0, none⟩) (lt_of_cell b0)).trans b0; have b1 := (HU3.out.1.cell (p := ⟨A, 1, none⟩) (lt_of_cell b1)).trans b1; have b2 := (HU3.out.1.cell (p := ⟨A, 2, none⟩) (lt_of_cell b2)).trans b2; clear hu3 h8)
                | (go_at_call 8; refine (HMT.out t3 _ HU3.out.2 HU3.out.1).mono ?_; rintro e u4 ⟨rfl, hu4⟩; have HU4 : Hid (Below u2.heap.size u2 u4) := below_step HU3.out.1 hu4; clear hu4))
              all_goals
                go_wp2_with fail
                go_meet
                case rel => exact ⟨rfl, HU4⟩
            case rest =>
            obtain ⟨rfl, HBX⟩ := hcut
            have HBY : Hid (Below w6.heap.size w6 wc) := below_step HBR.out HBX.out
            clear hcell b0 b1 b2 HSH HMT
            go_wp2
            go_roundw
            case rel => exact ⟨j2 + 1, by go_num, by omega, by omega, HBY⟩
            case measure => simp [intOf]; omega
          · have h2' : ¬ (j2 : Int) < 6 := by omega
            go_wp2
            go_ret
            exact ⟨rfl, below_step HL6.out HBR.out⟩
        · have h1' : ¬ (j2 : Int) < 1 + (m : Int) := by omega
          go_wp2
          go_ret
          exact ⟨rfl, below_step HL6.out HBR.out⟩
end Go.Proofs.YtmjnobdlgbojoaaGreatDoor
