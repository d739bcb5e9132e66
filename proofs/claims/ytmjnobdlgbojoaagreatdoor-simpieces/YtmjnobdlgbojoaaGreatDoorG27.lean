
import Derived.Test.YtmjnobdlgbojoaaGreatDoorG26
namespace Go.Proofs.YtmjnobdlgbojoaaGreatDoor
open Go.RowKit Go.Shelf
attribute [local go_sem] Oper.semAt_some
def BytePost (base : Nat) (w : World) (Wb : Nat) (M : Ma) (S b : Nat) (g : Oct.S) (r : Nat) (e : Ending) (w' : World) : Prop :=
  e = .returned (.tuple #[]) ∧ w.grownBy w' (some Wb) ∧ ∃ g2, IsCl M.es (kmov false false) (nextS M.es b g) g2 ∧ WkAt base w' Wb M S g2 (r ||| rulesG M.rs g2) true
set_option maxRecDepth 100000 in
set_option maxHeartbeats 8000000 in
theorem byte_any {base : Nat} {M : Ma} {S : Nat} {g : Oct.S} {r : Nat} {bg : Bool} (Wb b : Nat) (w : World) (hwk : WkAt base w Wb M S g r bg) (hM : Fits M S) (hT : Tab w) (h0 : base ≠ 0) (hb : b < 256) (hS : S ≤ 35184372088832) (hel : M.es.length ≤ 2513169434900) (hr : r < 4294967296) (hlt : ∀ s, g s = true → s < S) :
    Calls Tryz.prog 13 #[.pointer (some ⟨Wb, 0, none⟩), .int .u8 (b : Nat)] w (BytePost base w Wb M S b g r) := by
  have HWA : Hid (WkAt base w Wb M S g r bg) := hwk
  obtain ⟨hbW, mb, ra, rc, ib, c, h1, h2, h3, h4, h5⟩ := hwk
  obtain ⟨n, hn⟩ : ∃ n, n = (S + 63) / 64 := ⟨_, rfl⟩
  rw [← hn] at h1 h5
  obtain ⟨c0, c1, c2, c3, c4⟩ := h1.cells
  have hn1 : S ≤ 64 * n := by omega
  have hn2 : n ≤ 2513169434900 := by omega
  have hWlt := h1.lt
  have hmlt := h3.lt
  have hilt := h5.lt.1
  have hpos := hT.pos
  obtain ⟨hS1, hMS, hrs, hed, h32⟩ := id hM
  -- the two boxes
  obtain ⟨w1, hw1⟩ : ∃ w1, (w.alloc (.cells #[.pointer (some ⟨Wb, 0, none⟩)] 48)).alloc (.cells #[.int .u8 (b : Nat)] 5) = w1 := ⟨_, rfl⟩
  have hz1 : w1.heap.size = w.heap.size + 1 + 1 := by rw [← hw1]; simp
  have k1 : Below w.heap.size w w1 := by rw [← hw1]; exact ((Below.refl _ w).alloc (Nat.le_refl _) _).alloc (by simp) _
  have x2 : Boxed w1 w.heap.size 48 (.pointer (some ⟨Wb, 0, none⟩)) := by rw [← hw1]; exact (Boxed.new w _ _).alloc _
  have x3 : Boxed w1 (w.heap.size + 1) 5 (.int .u8 (b : Nat)) := by
    rw [← hw1]
    have h := Boxed.new (w.alloc (.cells #[.pointer (some ⟨Wb, 0, none⟩)] 48)) 5 (.int .u8 (b : Nat))
    rw [World.size_alloc] at h
    exact h
  have HW1 : Hid ((w.alloc (.cells #[.pointer (some ⟨Wb, 0, none⟩)] 48)).alloc (.cells #[.int .u8 (b : Nat)] 5) = w1) := hw1
  have y2 : ((w.alloc (.cells #[.pointer (some ⟨Wb, 0, none⟩)] 48)).alloc (.cells #[.int .u8 (b : Nat)] 5)).cell? ⟨w.heap.size, 0, none⟩ = some (.pointer (some ⟨Wb, 0, none⟩)) := by rw [hw1]; exact x2.cell
  have y1 : ((w.alloc (.cells #[.pointer (some ⟨Wb, 0, none⟩)] 48)).alloc (.cells #[.int .u8 (b : Nat)] 5)).cell? ⟨Wb, 1, none⟩ = some (.slice ra S rc) := by rw [hw1]; exact (k1.cell (p := ⟨Wb, 1, none⟩) hWlt).trans c1
  have HNR : Hid (Calls Tryz.prog 30 #[.int .i64 (S : Nat)] w1 _) := newRow_any S w1 (by omega)
  have HX2 : Hid (Boxed w1 w.heap.size 48 (.pointer (some ⟨Wb, 0, none⟩))) := x2
  have HX3 : Hid (Boxed w1 (w.heap.size + 1) 5 (.int .u8 (b : Nat))) := x3
  have HK1 : Hid (Below w.heap.size w w1) := k1
  have HWK : Hid (WkB w Wb mb (.slice ra S rc) (.slice (some ⟨ib, 0, none⟩) n c) r bg) := h1
  have HBY : Hid (ByB base w mb M.es) := h3
  have HUB : Hid (UB base w ra M.rs) := h4
  have HRW : Hid (RowG w base ib n c g) := h5
  have HT : Hid (Tab w) := hT
  have HM : Hid (Fits M S) := hM
  have HLT : Hid (∀ s, g s = true → s < S) := hlt
  have HED : Hid (∀ y ∈ M.es, 0 ≤ y.f ∧ y.f < S ∧ 0 ≤ y.t ∧ y.t < S) := hed
  have HNE : Hid (n = (S + 63) / 64) := hn
  have HPL : Hid (base ≤ Wb ∧ base ≤ mb) := ⟨hbW, h2⟩
  clear hw1 k1 x2 x3 h1 h2 h3 h4 h5 hT hM hlt hed hMS hrs h32 c0 c1 c2 c3 c4 hn hbW
  refine (callsIn_wide (n := 4)).1 ?_
  refine callsIn_of_wp_marks Tryz.func13 rfl trivial ?_ rfl
  simp only [Tryz.ntmps13, List.size_toArray, List.length_cons, List.length_nil, Nat.reduceAdd, Nat.reduceSub, Array.replicate_succ, Array.replicate_zero, List.push_toArray, List.append_toArray, List.nil_append, List.cons_append]
  gi_wp2
  refine ⟨trivial, ?_⟩
  rw [HW1.out]
  clear HW1 y1 y2
  refine (callsIn_wide.2 HNR.out).mono ?_
  rintro e w2 ⟨rfl, hr2, k2⟩
  obtain ⟨R, hR⟩ : ∃ R, R = w1.heap.size := ⟨_, rfl⟩
  rw [← hR, ← HNE.out] at hr2
  rw [← hR, ← HNE.out]
  have k02 : Below w.heap.size w w2 := below_step HK1.out k2
  have hRlo : w.heap.size + 2 ≤ R := by omega
  have hRlt : R < w2.heap.size := hr2.lt.1
  obtain ⟨Q, hQ⟩ : ∃ Q, Q = w2.heap.size := ⟨_, rfl⟩
  have kk : Below w2.heap.size w2 (w2.alloc (.cells #[.slice (some ⟨R, 0, none⟩) n n] 74)) := (Below.refl _ _).alloc (Nat.le_refl _) _
  have k03 : Below w.heap.size w (w2.alloc (.cells #[.slice (some ⟨R, 0, none⟩) n n] 74)) := below_step k02 kk
  have hbs : Bs w.heap.size Q Wb b R n (w2.alloc (.cells #[.slice (some ⟨R, 0, none⟩) n n] 74)) Oct.none := by
    have e2 : ∀ k, k < w1.heap.size → w2.heap[k]? = w1.heap[k]? := fun k hk => k2.block k hk
    refine ⟨Boxed.alloc (?_ : Boxed w2 _ _ _) _, Boxed.alloc (?_ : Boxed w2 _ _ _) _, ?_, (hr2.later kk).upon (by omega)⟩
    · exact (e2 _ (by omega)).trans HX2.out
    · exact (e2 _ (by omega)).trans HX3.out
    · rw [hQ]; exact Boxed.new w2 _ _
  have z2 : (w2.alloc (.cells #[.slice (some ⟨R, 0, none⟩) n n] 74)).cell? ⟨w.heap.size, 0, none⟩ = some (.pointer (some ⟨Wb, 0, none⟩)) := hbs.b2.cell
  have z1 : (w2.alloc (.cells #[.slice (some ⟨R, 0, none⟩) n n] 74)).cell? ⟨Wb, 2, none⟩ = some (.slice (some ⟨ib, 0, none⟩) n c) := (k03.cell (p := ⟨Wb, 2, none⟩) hWlt).trans HWK.out.cells.2.2.1
  have HBS : Hid (Bs w.heap.size Q Wb b R n (w2.alloc (.cells #[.slice (some ⟨R, 0, none⟩) n n] 74)) Oct.none) := hbs
  have HK3 : Hid (Below w.heap.size w (w2.alloc (.cells #[.slice (some ⟨R, 0, none⟩) n n] 74))) := k03
  have HQ : Hid (Q = w2.heap.size) := hQ
  have HSZ : Hid (w.heap.size + 2 ≤ R ∧ R < Q) := ⟨hRlo, by omega⟩
  clear hr2 k2 k02 kk k03 hbs hR HNR HX2 HX3 HK1 hz1 hRlt
  gi_wp2
  refine ⟨trivial, ?_⟩
  refine (callsIn_wide.2 (on_any ib n c _)).mono ?_
  rintro e w4 ⟨rfl, rfl⟩
  clear z1 z2
  obtain ⟨w3, hw3⟩ : ∃ w3, w2.alloc (.cells #[.slice (some ⟨R, 0, none⟩) n n] 74) = w3 := ⟨_, rfl⟩
  have hz3 : w3.heap.size = Q + 1 := by rw [← hw3, hQ]; simp
  rw [hw3] at HBS HK3 ⊢
  rw [← hQ]
  clear hw3 hQ
  obtain ⟨A, hA⟩ : ∃ A, w3.heap.size = A := ⟨_, rfl⟩
  have kk : Below w3.heap.size w3 (w3.alloc (.cells #[.slice (some ⟨ib, 0, none⟩) n c] 74)) := (Below.refl _ _).alloc (Nat.le_refl _) _
  have k04 : Below w.heap.size w (w3.alloc (.cells #[.slice (some ⟨ib, 0, none⟩) n c] 74)) := below_step HK3.out kk
  have hst := on_stops (4 - 1) (by omega) w3.heap.size ib n c base w.heap.size g (w3.alloc (.cells #[.slice (some ⟨ib, 0, none⟩) n c] 74)) hilt hpos hn2 (Boxed.new w3 74 (.slice (some ⟨ib, 0, none⟩) n c)).cell (HRW.out.later k04) (HT.out.later k04) (64 * n) (Oct.els_length _ _)
  have hB4 : Bs w.heap.size Q Wb b R n (w3.alloc (.cells #[.slice (some ⟨ib, 0, none⟩) n c] 74)) Oct.none := HBS.out.keep (below_grownS kk) (by simp) (by simp) (by simp) (by simp)
  obtain ⟨w4, hw4⟩ : ∃ w4, w3.alloc (.cells #[.slice (some ⟨ib, 0, none⟩) n c] 74) = w4 := ⟨_, rfl⟩
  have hz4 : w4.heap.size = Q + 2 := by rw [← hw4]; simp [hz3]
  rw [hw4] at hst hB4 k04 ⊢
  rw [hA] at hst ⊢
  have HST : Hid (SeqStopsK Fence.wide (4 - 1) Tryz.prog 56 #[.pointer (some ⟨A, 0, none⟩)] (encg g) (Below w.heap.size) (fun xs => valsOf xs = Oct.els g (64 * n)) (fun _ => True) (64 * n) w4) := hst
  have HI0 : Hid (Bs w.heap.size Q Wb b R n w4 (nx M.es b (valsOf ([] : List (Sg g)))) ∧ Below w.heap.size w w4) := ⟨by have e : valsOf ([] : List (Sg g)) = [] := rfl; rw [e, nx_nil]; exact hB4, k04⟩
  clear hw4 hst hB4 k04 kk hz3 hA HBS HK3
  gi_wp2
  refine wpIn_rangeFunc_ownG rfl (by omega) (gf := 56) (lb := #[.pointer (some ⟨A, 0, none⟩)]) rfl trivial (enters_of Tryz.func56 (by kernel_rfl) rfl)
    HST.out belowK_t (belowK_b (by have := HSZ.out; omega)) (Below.refl _ _) (fun _ => rfl)
    (fun pre W => Bs w.heap.size Q Wb b R n W (nx M.es b (valsOf pre)) ∧ Below w.heap.size w W)
    (fun _ _ _ => False)
    (OwnFrom.and (Own.from (fun s A B row hs hg hr => hs.keep hg (own_ne hs.b2 hr) (own_ne hs.b3 hr) (own_ne hs.b4 hr) (row_ne hs.row hr)) _) (ownFrom_below (Nat.le_refl _) (by have := HSZ.out; omega)))
    (fun _ _ _ _ _ hs _ _ => hs)
    HI0.out
    (fun x => { tmps := #[.pointer (some ⟨Wb, 0, none⟩), .int .u8 (b : Nat), .pointer (some ⟨w.heap.size, 0, none⟩), .pointer (some ⟨w.heap.size + 1, 0, none⟩), .pointer (some ⟨Q, 0, none⟩), .int .i64 (x.val : Nat), undef, undef, .pointer (some ⟨Wb, 0, none⟩), .pointer (some ⟨Wb, 0, none⟩), .pointer (some ⟨Wb, 1, none⟩), .slice ra S rc, .int .i64 (S : Nat), .slice (some ⟨R, 0, none⟩) n n, .pointer (some ⟨Wb, 0, none⟩), .pointer (some ⟨Wb, 0, none⟩), .pointer (some ⟨Wb, 2, none⟩), .slice (some ⟨ib, 0, none⟩) n c, .func (.func 56) #[] #[.pointer (some ⟨A, 0, none⟩)], .int .i64 (x.val : Nat), undef, undef, undef, undef, undef, undef, undef, undef, undef, undef, undef, undef, undef, undef, undef, undef, undef, undef, undef, undef, undef, undef, undef, undef, undef, undef, undef, undef, undef, undef, undef, undef], defers := [] }) ?assign ?body ?done ?stop
  case assign =>
    intro l x W K hK
    gi_wp2
    exact hK
  case body =>
    rintro l pre x W ⟨hbs, hB⟩ hlt
    obtain ⟨q, hq⟩ := x
    have hqS := HLT.out q hq
    obtain ⟨nm, F, hmap, hrows⟩ := HBY.out
    obtain ⟨ea, ec, hF, hEA⟩ := hrows ((q : Nat) : Int)
    obtain ⟨en, hen⟩ : ∃ en, en = (fromE M.es ((q : Nat) : Int)).length := ⟨_, rfl⟩
    rw [← hen] at hF
    have hlook := (hmap.same (hB.block mb hmlt)).look (x := ((q : Nat) : Int)) (by omega) (by omega)
    rw [hF] at hlook
    have HEA : Hid (EAt (fun k => base ≤ k ∧ TyB w 66 k) w ea (fromE M.es ((q : Nat) : Int))) := hEA
    have HEN : Hid (en = (fromE M.es ((q : Nat) : Int)).length) := hen
    have henl : en ≤ 2513169434900 := by rw [hen]; exact Nat.le_trans (fromE_len _ _) hel
    have HVS : Hid (valsOf (pre ++ [(⟨q, hq⟩ : Sg g)]) = valsOf pre ++ [q]) := valsOf_snoc pre ⟨q, hq⟩
    have u2 := hbs.b2.cell
    have u0 : W.cell? ⟨Wb, 0, none⟩ = some (.map (some mb)) := (hB.cell (p := ⟨Wb, 0, none⟩) hWlt).trans HWK.out.cells.1
    have HJ0 : Hid (Bs w.heap.size Q Wb b R n W (nxj M.es b (valsOf pre) ((fromE M.es ((q : Nat) : Int)).take 0)) ∧ Below w.heap.size w W ∧ Below w.heap.size W W ∧ KeepsFrom (Q + 2) W W) := ⟨by rw [List.take_zero, nxj_nil]; exact hbs, hB, Below.refl _ _, KeepsFrom.refl _ _⟩
    clear hbs hB hmap hrows hF hEA hen
    gi_wp2
    gi_loopw [27] (fun i u => ∃ j : Nat, i = .int .i64 (j : Nat) ∧ j ≤ en ∧ Hid (Bs w.heap.size Q Wb b R n u (nxj M.es b (valsOf pre) ((fromE M.es ((q : Nat) : Int)).take j)) ∧ Below w.heap.size w u ∧ Below w.heap.size W u ∧ KeepsFrom (Q + 2) W u)) (fun i _ => en - (intOf i).toNat)
    case atStart => exact ⟨0, rfl, Nat.zero_le _, HJ0⟩
    case round =>
      clear HJ0 hlook u0 u2
      obtain ⟨j, rfl, hjn, HJ⟩ := hrel
      by_cases hjl : j < en
      · have hjl' : (j : Int) < (en : Int) := by omega
        obtain ⟨y, hy⟩ : ∃ y, (fromE M.es ((q : Nat) : Int))[j]? = some y := ⟨_, List.getElem?_eq_getElem (by rw [← HEN.out]; exact hjl)⟩
        obtain ⟨eb, off, rfl, e0, e1, e2, e3, e4, e5, e6⟩ := (HEA.out.keep (Y := fun _ => True) (w' := wr) (fun _ _ _ => trivial) (fun k _ hl => HJ.out.2.1.block k hl)).nth hy
        have HTK : Hid ((fromE M.es ((q : Nat) : Int)).take (j + 1) = (fromE M.es ((q : Nat) : Int)).take j ++ [y]) := by show _ = _; rw [List.take_add_one, hy]; rfl
        have hbnd := HED.out y (mem_fromE.1 (List.mem_of_getElem? hy)).1
        clear hy
        obtain ⟨k, f0, tz, s0⟩ := y
        simp only at e0 e1 e2 e3 e4 e5 e6 hbnd
        obtain ⟨t, rfl⟩ : ∃ t : Nat, tz = (t : Int) := ⟨tz.toNat, by omega⟩
        have ht64 : t < 64 * n := by omega
        have kk : Below wr.heap.size wr (wr.alloc (.cells #[.int .i64 k, .int .i64 f0, .int .i64 (t : Nat), .int .u64 (Oct.word s0 0 : Nat), .int .u64 (Oct.word s0 1 : Nat), .int .u64 (Oct.word s0 2 : Nat), .int .u64 (Oct.word s0 3 : Nat)] 66)) := (Below.refl _ _).alloc (Nat.le_refl _) _
        have heb := eb_new wr ⟨k, f0, (t : Int), s0⟩
        obtain ⟨d0, d1, d2, d3, d4, d5, d6⟩ := heb.cells
        simp only at d0 d1 d2 d3 d4 d5 d6
        have HEB : Hid (EB (wr.alloc (.cells #[.int .i64 k, .int .i64 f0, .int .i64 (t : Nat), .int .u64 (Oct.word s0 0 : Nat), .int .u64 (Oct.word s0 1 : Nat), .int .u64 (Oct.word s0 2 : Nat), .int .u64 (Oct.word s0 3 : Nat)] 66)) wr.heap.size ⟨k, f0, (t : Int), s0⟩) := heb
        have HJ1 : Hid (Bs w.heap.size Q Wb b R n (wr.alloc (.cells #[.int .i64 k, .int .i64 f0, .int .i64 (t : Nat), .int .u64 (Oct.word s0 0 : Nat), .int .u64 (Oct.word s0 1 : Nat), .int .u64 (Oct.word s0 2 : Nat), .int .u64 (Oct.word s0 3 : Nat)] 66)) (nxj M.es b (valsOf pre) ((fromE M.es ((q : Nat) : Int)).take j)) ∧ Below w.heap.size w (wr.alloc (.cells #[.int .i64 k, .int .i64 f0, .int .i64 (t : Nat), .int .u64 (Oct.word s0 0 : Nat), .int .u64 (Oct.word s0 1 : Nat), .int .u64 (Oct.word s0 2 : Nat), .int .u64 (Oct.word s0 3 : Nat)] 66)) ∧ Below w.heap.size W (wr.alloc (.cells #[.int .i64 k, .int .i64 f0, .int .i64 (t : Nat), .int .u64 (Oct.word s0 0 : Nat), .int .u64 (Oct.word s0 1 : Nat), .int .u64 (Oct.word s0 2 : Nat), .int .u64 (Oct.word s0 3 : Nat)] 66)) ∧ KeepsFrom (Q + 2) W (wr.alloc (.cells #[.int .i64 k, .int .i64 f0, .int .i64 (t : Nat), .int .u64 (Oct.word s0 0 : Nat), .int .u64 (Oct.word s0 1 : Nat), .int .u64 (Oct.word s0 2 : Nat), .int .u64 (Oct.word s0 3 : Nat)] 66))) := by
          obtain ⟨h1, h2, h3, h4⟩ := HJ.out
          exact ⟨h1.keep (below_grownS kk) (by simp) (by simp) (by simp) (by simp), below_step h2 kk, h3.trans (kk.mono h2.size), h4.trans ((KeepsOthers.alloc _ _).from _)⟩
        have g3 := HJ1.out.1.b3.cell
        have g4 := HJ1.out.1.b4.cell
        clear kk heb hbnd HJ
        by_cases hk : k = 2
        · have hkb : (k == 2) = true := by simp [hk]
          have HKK : Hid (k = 2) := hk
          clear hk
          gi_wp2
          refine ⟨trivial, ?_⟩
          refine (CallsIn.inRound l (callsIn_wide.2 (has_gen s0 b _ hb))).mono ?_
          rintro e w5 ⟨rfl, k5⟩
          have HJ2 : Hid (Bs w.heap.size Q Wb b R n w5 (nxj M.es b (valsOf pre) ((fromE M.es ((q : Nat) : Int)).take j)) ∧ Below w.heap.size w w5 ∧ Below w.heap.size W w5 ∧ KeepsFrom (Q + 2) W w5) := by
            obtain ⟨h1, h2, h3, h4⟩ := HJ1.out
            exact ⟨h1.keep (below_grownS k5) (by simp) (by simp) (by simp) (by simp), below_step h2 k5, h3.trans (k5.mono h2.size), h4.trans ((KeepsOthers.of_grownBy (below_grownS k5) (fun j o e => by cases e)).from _)⟩
          have d2' : w5.cell? ⟨wr.heap.size, 2, none⟩ = some (.int .i64 (t : Nat)) := (World.cell?_of_block (a := ⟨wr.heap.size, 2, none⟩) (k5.block _ HEB.out.lt)).trans d2
          have g4' := HJ2.out.1.b4.cell
          clear k5 HJ1 d0 d1 d2 d3 d4 d5 d6 g3 g4 e0 e1 e2 e3 e4 e5 e6 HEB
          cases hs0 : s0 b with
          | false =>
            have HJ3 : Hid (Bs w.heap.size Q Wb b R n w5 (nxj M.es b (valsOf pre) ((fromE M.es ((q : Nat) : Int)).take (j + 1))) ∧ Below w.heap.size w w5 ∧ Below w.heap.size W w5 ∧ KeepsFrom (Q + 2) W w5) := by
              have h := HJ2.out
              rw [HTK.out, nxj_skip (Or.inr hs0)]
              exact h
            clear hs0
            gi_wp2
            go_roundw
            case rel => exact ⟨j + 1, by go_num, by omega, HJ3⟩
            case measure => simp [intOf]; omega
          | true =>
            have HADD : Hid (Calls Tryz.prog 33 #[.slice (some ⟨R, 0, none⟩) n n, .int .i64 (t : Nat)] w5 _) := addRow_any w.heap.size R n n t _ w5 HJ2.out.1.row ht64 hn2
            have HS0 : Hid (s0 b = true) := hs0
            clear hs0
            gi_wp2
            refine ⟨trivial, ?_⟩
            refine (CallsIn.inRound l (callsIn_wide.2 HADD.out)).mono ?_
            rintro e w6 ⟨rfl, hr6, hg6⟩
            have HJ3 : Hid (Bs w.heap.size Q Wb b R n w6 (nxj M.es b (valsOf pre) ((fromE M.es ((q : Nat) : Int)).take (j + 1))) ∧ Below w.heap.size w w6 ∧ Below w.heap.size W w6 ∧ KeepsFrom (Q + 2) W w6) := by
              obtain ⟨h1, h2, h3, h4⟩ := HJ2.out
              have e : nxj M.es b (valsOf pre) ((fromE M.es ((q : Nat) : Int)).take (j + 1)) = Oct.ins (nxj M.es b (valsOf pre) ((fromE M.es ((q : Nat) : Int)).take j)) t := by rw [HTK.out, nxj_add HKK.out HS0.out]; rfl
              rw [e]
              have hsz := HSZ.out
              refine ⟨⟨h1.b2.kept hg6 (fun e => by cases e; omega), h1.b3.kept hg6 (fun e => by cases e; omega), h1.b4.kept hg6 (fun e => by cases e; omega), hr6⟩, h2.grown hg6 h2.size (fun k e => by cases e; omega), h3.grown hg6 h2.size (fun k e => by cases e; omega), h4.trans ((KeepsOthers.of_grownBy hg6 (fun j o e ho => ?_)).from _)⟩
              cases e
              obtain ⟨cc, z, hz⟩ := h1.row.ty
              rw [hz] at ho
              cases ho
              rfl
            clear hr6 hg6 HADD HJ2
            gi_wp2
            go_roundw
            case rel => exact ⟨j + 1, by go_num, by omega, HJ3⟩
            case measure => simp [intOf]; omega
        · have hkb : (k == 2) = false := by simp [hk]
          have HJ3 : Hid (Bs w.heap.size Q Wb b R n (wr.alloc (.cells #[.int .i64 k, .int .i64 f0, .int .i64 (t : Nat), .int .u64 (Oct.word s0 0 : Nat), .int .u64 (Oct.word s0 1 : Nat), .int .u64 (Oct.word s0 2 : Nat), .int .u64 (Oct.word s0 3 : Nat)] 66)) (nxj M.es b (valsOf pre) ((fromE M.es ((q : Nat) : Int)).take (j + 1))) ∧ Below w.heap.size w (wr.alloc (.cells #[.int .i64 k, .int .i64 f0, .int .i64 (t : Nat), .int .u64 (Oct.word s0 0 : Nat), .int .u64 (Oct.word s0 1 : Nat), .int .u64 (Oct.word s0 2 : Nat), .int .u64 (Oct.word s0 3 : Nat)] 66)) ∧ Below w.heap.size W (wr.alloc (.cells #[.int .i64 k, .int .i64 f0, .int .i64 (t : Nat), .int .u64 (Oct.word s0 0 : Nat), .int .u64 (Oct.word s0 1 : Nat), .int .u64 (Oct.word s0 2 : Nat), .int .u64 (Oct.word s0 3 : Nat)] 66)) ∧ KeepsFrom (Q + 2) W (wr.alloc (.cells #[.int .i64 k, .int .i64 f0, .int .i64 (t : Nat), .int .u64 (Oct.word s0 0 : Nat), .int .u64 (Oct.word s0 1 : Nat), .int .u64 (Oct.word s0 2 : Nat), .int .u64 (Oct.word s0 3 : Nat)] 66))) := by
            have h := HJ1.out
            rw [HTK.out, nxj_skip (Or.inl hk)]
            exact h
          clear HJ1
          gi_wp2
          refine ⟨trivial, ?_⟩
          gi_wp2
          go_roundw
          case rel => exact ⟨j + 1, by go_num, by omega, HJ3⟩
          case measure => simp [intOf]; omega
      · have hjl' : ¬ (j : Int) < (en : Int) := by omega
        have HFIN : Hid (Bs w.heap.size Q Wb b R n wr (nx M.es b (valsOf pre ++ [q])) ∧ Below w.heap.size w wr ∧ Below w.heap.size W wr ∧ KeepsFrom (Q + 2) W wr) := by
          have h := HJ.out
          rw [List.take_of_length_le (by rw [← HEN.out]; omega), nxj_all] at h
          exact h
        gi_wp2
        obtain ⟨h1, h2, h3, h4⟩ := HFIN.out
        rw [← HVS.out] at h1
        exact ⟨h4, h3, h1, h2⟩
  case done =>
    rintro D ys W hD hys ⟨hbs, hB⟩ hK
    rw [hys, els_all HLT.out hn1] at hbs
    have hsz := HSZ.out
    have hDl := (Array.getElem?_eq_some_iff.1 hK).1
    have hwk := HWK.out.same (hB.block Wb hWlt)
    have hwk2 := hwk.setBg true
    have hWR : Wb ≠ R := by omega
    have hold : ∀ k, k < w.heap.size → k ≠ Wb → (W.setCell ⟨Wb, 4, none⟩ (.bool true)).heap[k]? = w.heap[k]? := fun k hk hne => (Below.heap_setCell W ⟨Wb, 4, none⟩ _ k hne).trans (hB.block k hk)
    have hrow2 : RowG (W.setCell ⟨Wb, 4, none⟩ (.bool true)) w.heap.size R n n (nx M.es b (Oct.els g S)) := hbs.row.same (Below.heap_setCell W ⟨Wb, 4, none⟩ _ R (fun e => hWR (by have e : R = Wb := e; exact e.symm)))
    have hb2 : Boxed (W.setCell ⟨Wb, 4, none⟩ (.bool true)) w.heap.size 48 (.pointer (some ⟨Wb, 0, none⟩)) := (Below.heap_setCell W ⟨Wb, 4, none⟩ _ w.heap.size (fun e => by have e : w.heap.size = Wb := e; omega)).trans hbs.b2
    have hb4 : Boxed (W.setCell ⟨Wb, 4, none⟩ (.bool true)) Q 74 (.slice (some ⟨R, 0, none⟩) n n) := (Below.heap_setCell W ⟨Wb, 4, none⟩ _ Q (fun e => by have e : Q = Wb := e; omega)).trans hbs.b4
    have kk : ∀ u : World, Below u.heap.size u (u.alloc (.cells #[.int .i64 1] 3)) := fun u => (Below.refl _ _).alloc (Nat.le_refl _) _
    have hks := ksAt_one (W.setCell ⟨Wb, 4, none⟩ (.bool true)) 3 1
    have hwsz : (W.setCell ⟨Wb, 4, none⟩ (.bool true)).heap.size = W.heap.size := by simp
    obtain ⟨V, hV⟩ : ∃ V, V = W.setCell ⟨Wb, 4, none⟩ (.bool true) := ⟨_, rfl⟩
    rw [← hV] at hwk2 hold hrow2 hb2 hb4 hks hwsz
    have hold3 : ∀ k, k < w.heap.size → k ≠ Wb → (V.alloc (.cells #[.int .i64 1] 3)).heap[k]? = w.heap[k]? := fun k hk hne => ((kk V).block k (by have := hB.size; omega)).trans (hold k hk hne)
    have hWV : Wb < V.heap.size := hwk2.lt
    have hby3 : ByAt (fun k => TyB (V.alloc (.cells #[.int .i64 1] 3)) 66 k ∨ TyB (V.alloc (.cells #[.int .i64 1] 3)) 44 k) (V.alloc (.cells #[.int .i64 1] 3)) mb M.es := by
      have hty : ∀ k, TyB w 66 k → k ≠ Wb := fun k h e => by subst e; exact absurd (TyB.ne h HWK.out.ty) (by decide)
      exact HBY.out.keep (hold3 mb hmlt (fun e => HBY.out.no _ (by rw [e]; exact HWK.out.ty))) (fun k h hl => Or.inl (h.2.same (hold3 k hl (hty k h.2)))) (fun k h hl => hold3 k hl (hty k h.2))
    have hub3 : UAt (fun k => TyB (V.alloc (.cells #[.int .i64 1] 3)) 66 k ∨ TyB (V.alloc (.cells #[.int .i64 1] 3)) 44 k) (V.alloc (.cells #[.int .i64 1] 3)) ra M.rs := by
      have hty : ∀ k, TyB w 44 k → k ≠ Wb := fun k h e => by subst e; exact absurd (TyB.ne h HWK.out.ty) (by decide)
      exact HUB.out.keep (fun k h hl => Or.inr (h.2.same (hold3 k hl (hty k h.2)))) (fun k h hl => hold3 k hl (hty k h.2))
    have hwk3 := hwk2.same ((kk V).block Wb hWV)
    have hrow3 := hrow2.later (kk V)
    have hT3 : Tab (V.alloc (.cells #[.int .i64 1] 3)) := HT.out.keep (hold3 0 hpos (by have := HPL.out; omega))
    have hedt : ∀ y ∈ M.es, 0 ≤ y.t ∧ y.t < (S : Int) := fun y hy => by have := HED.out y hy; omega
    have HEN : Hid (Calls Tryz.prog 29 #[.pointer (some ⟨Wb, 0, none⟩), .slice (some ⟨R, 0, none⟩) n n, .slice (some ⟨V.heap.size, 0, none⟩) 1 1] (V.alloc (.cells #[.int .i64 1] 3)) _) :=
      enter_any Wb mb R n n w.heap.size 1 1 S rc r ra (.slice (some ⟨ib, 0, none⟩) n c) true (some ⟨V.heap.size, 0, none⟩) [1] M (nx M.es b (Oct.els g S)) _ HM.out hn1 hn2 hel hwk3 hby3 hub3
        (fun k h => ⟨fun e => by subst e; rcases h with h | h <;> exact absurd (TyB.ne h hrow3.ty) (by decide), fun e => by subst e; rcases h with h | h <;> exact absurd (TyB.ne h hwk3.ty) (by decide)⟩) hrow3 hT3 (by omega) (by have := HPL.out; omega) hr rfl (by decide) hks (fun k off e => by cases e; have := hrow2.lt.1; omega) (fun s hs => (nx_lt hedt hs).1)
        (fun g' hg => Nat.le_trans (cnt_leS (es := M.es) (fun s hs => rch_cnt (fun t ht => by
          unfold Oct.ins at ht
          simp only [Bool.or_eq_true, beq_iff_eq] at ht
          rcases ht with ht | ht
          · exact Or.inl ht
          · exact Or.inr (nx_lt hedt ht).2) (hg s hs))) (by omega))
    rw [hwsz] at HEN
    have p0 := hbs.b2.cell
    have p4 := hwk.frozen 4
    have p5 := hwk.cells.2.2.2.2
    have p1 := hb2.cell
    have p2 := hb4.cell
    have HV : Hid (V = W.setCell ⟨Wb, 4, none⟩ (.bool true)) := hV
    rw [hV] at p1 p2
    have HH3 : Hid (∀ k, k < w.heap.size → k ≠ Wb → (V.alloc (.cells #[.int .i64 1] 3)).heap[k]? = w.heap[k]?) := hold3
    have HKD : Hid ((V.alloc (.cells #[.int .i64 1] 3)).heap[D]? = some (.deferred (some []))) := ((kk V).block D (by omega)).trans (by rw [hV]; exact (KeepsOthers.setCell W ⟨Wb, 4, none⟩ (.bool true)).same D _ hK rfl)
    have HTY : Hid (TyB (V.alloc (.cells #[.int .i64 1] 3)) 76 Wb ∧ TyB (V.alloc (.cells #[.int .i64 1] 3)) 26 R ∧ w.heap.size ≤ (V.alloc (.cells #[.int .i64 1] 3)).heap.size ∧ (V.alloc (.cells #[.int .i64 1] 3)).os = w.os ∧ (V.alloc (.cells #[.int .i64 1] 3)).tape = w.tape ∧ (V.alloc (.cells #[.int .i64 1] 3)).output = w.output) := ⟨hwk3.ty, hrow3.ty, by have := hB.size; rw [World.size_alloc]; omega, by rw [hV]; exact hB.os, by rw [hV]; exact hB.tape, by rw [hV]; exact hB.output⟩
    have HDN : Hid (D ≠ Wb ∧ D ≠ R ∧ w.heap.size ≤ D) := ⟨by omega, (fun e => by
      subst e
      obtain ⟨cc, z, hz⟩ := hbs.row.ty
      rw [hz] at hK
      cases hK), by omega⟩
    clear hbs hB hK hys hwk hwk2 hold hrow2 hb2 hb4 kk hks hwsz hold3 hWV hby3 hub3 hwk3 hrow3 hT3 hedt hV hDl
    gi_wp2
    refine ⟨trivial, ?_⟩
    rw [← HV.out]
    refine (callsIn_wide.2 HEN.out).mono ?_
    rintro e w7 ⟨rfl, g2, hcl, hwk7, hr7, hf7⟩
    have HCL : Hid (IsCl M.es (kmov false false) (nextS M.es b g) g2) := by
      rw [kinds_1, nx_next HLT.out (fun y hy => (HED.out y hy).1)] at hcl
      exact hcl
    have hK7 : w7.heap[D]? = some (.deferred (some [])) := (hf7.block D (Array.getElem?_eq_some_iff.1 HKD.out).1 HDN.out.1 HDN.out.2.1).trans HKD.out
    clear hcl HEN
    gi_wp2
    refine ⟨by simp, .inl ⟨_, _, rfl, run_takeDeferred hK7, ?_⟩⟩
    refine ⟨_, results_none rfl _ _ _, rfl, ?_, g2, HCL.out, ?_⟩
    · obtain ⟨_, _, t3, t4, t5, t6⟩ := HTY.out
      have hp := grownBy_putObj' w7 D (.deferred none)
      refine ⟨hp.os.trans (hf7.os.trans t4), hp.tape.trans (hf7.tape.trans t5), hp.output.trans (hf7.output.trans t6), Nat.le_trans t3 (Nat.le_trans hf7.size hp.size), fun k hk hne => ?_⟩
      have hkW : k ≠ Wb := fun e => hne (by rw [e])
      exact (hp.block k (by have := hf7.size; omega) (fun e => by have := HDN.out.2.2; cases e; omega)).trans ((hf7.block k (by omega) hkW (by omega)).trans (HH3.out k hk hkW))
    · obtain ⟨t1, t2, t3, _, _, _⟩ := HTY.out
      have hp := grownBy_putObj' w7 D (.deferred none)
      have h7 : ∀ k, k < w.heap.size → k ≠ Wb → w7.heap[k]? = w.heap[k]? := fun k hk hkW => (hf7.block k (by omega) hkW (by omega)).trans (HH3.out k hk hkW)
      have hE : ∀ k, TyB w 66 k → k ≠ Wb := fun k h e => by subst e; exact absurd (TyB.ne h HWK.out.ty) (by decide)
      have hU : ∀ k, TyB w 44 k → k ≠ Wb := fun k h e => by subst e; exact absurd (TyB.ne h HWK.out.ty) (by decide)
      have hat : WkAt base w7 Wb M S g2 (r ||| rulesG M.rs g2) true := by
        refine ⟨HPL.out.1, mb, ra, rc, R, n, by rw [← HNE.out]; exact hwk7, HPL.out.2, ?_, ?_, by rw [← HNE.out]; exact hr7.upon (by have := HPL.out; omega)⟩
        · exact HBY.out.keep (h7 mb hmlt (fun e => HBY.out.no _ (by rw [e]; exact HWK.out.ty))) (fun k h hl => ⟨h.1, h.2.same (h7 k hl (hE k h.2))⟩) (fun k h hl => h7 k hl (hE k h.2))
        · exact HUB.out.keep (fun k h hl => ⟨h.1, h.2.same (h7 k hl (hU k h.2))⟩) (fun k h hl => h7 k hl (hU k h.2))
      refine hat.keep (fun k _ hl hc => hp.block k hl (fun e => ?_))
      cases e
      rcases hc with hc | ⟨c1, z1, hc⟩ | ⟨c1, z1, hc⟩ | ⟨c1, z1, hc⟩ | ⟨c1, z1, hc⟩
      · exact HDN.out.1 hc
      · rw [hK7] at hc; cases hc
      · rw [hK7] at hc; cases hc
      · rw [hK7] at hc; cases hc
      · rw [hK7] at hc; cases hc
  case stop =>
    rintro D c pre W _ _ h _
    exact h.elim
end Go.Proofs.YtmjnobdlgbojoaaGreatDoor
