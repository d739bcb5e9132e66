/- heronlaw07's ends: of a repeat. -/
import Derived.Test.YtjmbimgofceanaaG27
import Derived.Test.YtjmbimgofceanaaG26
namespace Go.Proofs.Ytjmbimgofceanaa
open Go.RowKit
attribute [local go_sem ↓] Go.wp_at_zero Go.wp_at_succ

theorem bls_append (a b : List Bool) : bls (a ++ b) = bls a ++ bls b := by simp [bls]
theorem rowB_empty (w : World) (base : Nat) (hb : base ≤ w.heap.size) : RowB (w.alloc (.cells #[] 4)) base (.slice (some ⟨w.heap.size, 0, none⟩) 0 0) [] := ⟨rfl, Or.inr ⟨w.heap.size, 0, #[], rfl, hb, heap_alloc_new w _, Nat.le_refl _, by decide, rfl, rfl⟩⟩
theorem run_append_bools (w : World) (ty : TypeId) (base g : Nat) (hown : RowB w base (.slice (some ⟨g, 0, none⟩) 0 0) []) (h n cap : Nat) (zs : List Bool) (hz : zs.length = n) (hn : 0 < n) (hm : n ≤ 1000000) (hb : BAt w h zs) (hbase : base ≤ w.heap.size) :
    ∃ g' c' w', (Builtin.append_ #[73, 73] ty #[.slice (some ⟨g, 0, none⟩) 0 0, .slice (some ⟨h, 0, none⟩) n cap]).run Try.prog w = .ok (.slice (some ⟨g', 0, none⟩) n c') w' ∧ RowB w' base (.slice (some ⟨g', 0, none⟩) n c') zs ∧ w.grownBy w' (some g) ∧ (g' = g ∨ w.heap.size ≤ g') := by
  obtain ⟨i0, hi, hz0, hz1, hz2⟩ := info_parts infoB
  subst hz
  obtain ⟨g', c', w', hr, ho, hg, hgg, hlt⟩ := run_append_lies (P := Try.prog) w 73 ty base 4 i0 _ 1 1 Try.underlying73 hi hz0 hz1 hz2 rfl (by decide) (.slice (some ⟨g, 0, none⟩) 0 0) 0 [] hown ⟨h, 0, none⟩ zs.length cap (bls zs) (by rw [bls_length, Nat.mul_one])
    (fun j v hj => by
      rw [bls_at] at hj
      cases hz : zs[j]? with
      | none => rw [hz] at hj; cases hj
      | some b =>
        rw [hz] at hj
        cases hj
        rw [Go.WideShapes.add_plain, Nat.zero_add]
        exact hb j b hz) (bls_one zs) hn (by simp only [maxLen]; omega) (by omega) hbase w.heap.size rfl
  rw [Nat.zero_add] at hr ho
  rw [List.nil_append] at ho
  exact ⟨g', c', w', hr, ho, hg, by rcases hgg with h | h; exact Or.inl (by simpa [Value.ownBlock] using h.symm); exact Or.inr (Nat.le_of_eq h.symm)⟩
/-- what is come to by some number of times -/
def Some (T : Nat → Nat → Prop) (M r : Nat) (fs bs : List Bool) : Prop := ∀ j, bt bs j ↔ ∃ q, q ≤ r ∧ ∃ i, bt fs i ∧ powR T (M + q) i j
theorem some_stop {T : Nat → Nat → Prop} {M r : Nat} {fs bs ns : List Bool} (h : Some T M r fs bs) (hn : Img (powR T (M + r + 1)) fs ns) (hs : ∀ j, bt ns j → bt bs j) : ∀ (q j : Nat), (∃ i, bt fs i ∧ powR T (M + q) i j) → bt bs j := by
  intro q
  induction q with
  | zero => exact fun j hj => (h j).2 ⟨0, Nat.zero_le _, hj⟩
  | succ q ih =>
    rintro j ⟨i, hi, hp⟩
    obtain ⟨k, hp1, hp2⟩ := (powR_add T (M + q) 1 i j).1 hp
    obtain ⟨q', hq', i', hi', hp'⟩ := (h k).1 (ih k ⟨i, hi, hp1⟩)
    have hj : powR T (M + q' + 1) i' j := (powR_add T (M + q') 1 i' j).2 ⟨k, hp', hp2⟩
    by_cases hq : q' + 1 ≤ r
    · exact (h j).2 ⟨q' + 1, hq, i', hi', hj⟩
    · have : q' = r := by omega
      subst this
      exact hs j ((hn j).2 ⟨i', hi', hj⟩)
set_option maxRecDepth 4000 in
set_option maxHeartbeats 16000000 in
theorem ends_5 {w0 : World} {line : ByteArray} (hl60 : line.size ≤ 60) {s : Oct.S} {t : Tn} {v : Nd} {M : Nat} {mx : Int} {a : Option Addr} {c : Nat} (hr : RowAt (fun _ => True) w0 a [v]) (hs : EndsV w0 line t v) (hM : M ≤ 255) (hmx : mx = -1 ∨ (M : Int) ≤ mx ∧ mx ≤ 255) : EndsV w0 line (.mk 5 s [t] (M : Nat) mx) ⟨5, s, a, 1, c, (M : Nat), mx⟩ := by
  have HTK : Hid (∀ i j, Tk line (.mk 5 s [t] (M : Nat) mx) i j ↔ ∃ n : Nat, M ≤ n ∧ (mx = -1 ∨ (n : Int) ≤ mx) ∧ powR (Tk line t) n i j) := fun i j => by
    have eH : TkH line [t] = Tk line t := by funext i j; rw [TkH]
    rw [Tk, eH]
    simp
  have HIH : Hid (EndsV w0 line t v) := hs
  have HRO : Hid (RowAt (fun _ => True) w0 a [v]) := hr
  clear hs hr
  intro w gf cf fs hlow hfl hfs
  obtain ⟨N, hN⟩ : ∃ N, line.size + 1 = N := ⟨_, rfl⟩
  rw [hN] at hfl ⊢
  have hNI : (line.size : Int) + 1 = (N : Nat) := by omega
  have hN6 : N ≤ 61 := by omega
  have HN : Hid (line.size + 1 = N) := hN
  have kk : Below w.heap.size w (w.alloc (.cells #[.int .i64 5, .int .u64 (Oct.word s 0 : Nat), .int .u64 (Oct.word s 1 : Nat), .int .u64 (Oct.word s 2 : Nat), .int .u64 (Oct.word s 3 : Nat), .slice a 1 c, .int .i64 (M : Nat), .int .i64 mx] 30)) := (Below.refl _ _).alloc (Nat.le_refl _) _
  have HNA : Hid (NB (w.alloc (.cells #[.int .i64 5, .int .u64 (Oct.word s 0 : Nat), .int .u64 (Oct.word s 1 : Nat), .int .u64 (Oct.word s 2 : Nat), .int .u64 (Oct.word s 3 : Nat), .slice a 1 c, .int .i64 (M : Nat), .int .i64 mx] 30)) w.heap.size ⟨5, s, a, 1, c, (M : Nat), mx⟩) := nb_new w ⟨5, s, a, 1, c, (M : Nat), mx⟩
  have HB : Hid (Below w.heap.size w (w.alloc (.cells #[.int .i64 5, .int .u64 (Oct.word s 0 : Nat), .int .u64 (Oct.word s 1 : Nat), .int .u64 (Oct.word s 2 : Nat), .int .u64 (Oct.word s 3 : Nat), .slice a 1 c, .int .i64 (M : Nat), .int .i64 mx] 30))) := kk
  have HF : Hid (BAt (w.alloc (.cells #[.int .i64 5, .int .u64 (Oct.word s 0 : Nat), .int .u64 (Oct.word s 1 : Nat), .int .u64 (Oct.word s 2 : Nat), .int .u64 (Oct.word s 3 : Nat), .slice a 1 c, .int .i64 (M : Nat), .int .i64 mx] 30)) gf fs) := hfs.later kk
  have HGF : Hid (gf < w.heap.size) := bat_lt hfs hfl (by omega)
  obtain ⟨w1, hw1⟩ : ∃ w1, w.alloc (.cells #[.int .i64 5, .int .u64 (Oct.word s 0 : Nat), .int .u64 (Oct.word s 1 : Nat), .int .u64 (Oct.word s 2 : Nat), .int .u64 (Oct.word s 3 : Nat), .slice a 1 c, .int .i64 (M : Nat), .int .i64 mx] 30) = w1 := ⟨_, rfl⟩
  rw [hw1] at HNA HB HF
  obtain ⟨A, hA⟩ : ∃ A, w.heap.size = A := ⟨_, rfl⟩
  rw [hA] at HNA
  have HW1 : Hid (w.alloc (.cells #[.int .i64 5, .int .u64 (Oct.word s 0 : Nat), .int .u64 (Oct.word s 1 : Nat), .int .u64 (Oct.word s 2 : Nat), .int .u64 (Oct.word s 3 : Nat), .slice a 1 c, .int .i64 (M : Nat), .int .i64 mx] 30) = w1) := hw1
  have HAA : Hid (w.heap.size = A) := hA
  have HLW : Hid (Below w0.heap.size w0 w) := hlow
  have HFL : Hid (fs.length = N) := hfl
  clear hw1 hA hlow kk hfs hfl hN
  unfold Nd.val
  simp only
  go_enter Try.func35, Try.ntmps35
  go_upto_region 1 with fail
  rw [HW1.out, HAA.out]
  clear HW1
  go_upto_region 2 with (first | (refine wpList_make_bool rfl _ _ rfl w.heap.size N HB.out.size (by show _ = Value.int .i64 ((N : Nat) : Int); rw [← hNI]; rfl) (by show _ = Value.int .i64 ((N : Nat) : Int); rw [← hNI]; rfl) (by omega) ?_; intro w2 hr2 hb2; have HR2 : Hid (RowB w2 w.heap.size (.slice (some ⟨w1.heap.size, 0, none⟩) N N) (List.replicate N false)) := hr2; have HK2 : Hid (Below w1.heap.size w1 w2) := hb2; clear hr2 hb2) | fail)
  obtain ⟨G, hG⟩ : ∃ G, w1.heap.size = G := ⟨_, rfl⟩
  rw [hG] at HR2 ⊢
  have HAG : Hid (A < G ∧ gf < G) := by have h1 := HNA.out.lt; have h2 := HGF.out; have h3 := HAA.out; exact ⟨by omega, by omega⟩
  have HNA2 : Hid (NB w2 A ⟨5, s, a, 1, c, (M : Nat), mx⟩) := HNA.out.later HK2.out
  have HB2 : Hid (Below w.heap.size w w2) := below_step HB.out HK2.out
  have HF2 : Hid (BAt w2 gf fs) := HF.out.later HK2.out
  clear hG HNA HB HF HK2
  obtain ⟨y0, y1, y2, y3, y4, y5, y6, y7⟩ := HNA2.out.cells
  simp only at y0 y1 y2 y3 y4 y5 y6 y7
  go_upto_region 30 with (first | (refine wpList_copy_bools rfl _ _ rfl w.heap.size G N N _ rfl HR2.out gf cf fs HFL.out rfl HF2.out ?_; intro w3 hr3 hb3; have HR3 : Hid (RowB w3 w.heap.size (.slice (some ⟨G, 0, none⟩) N N) fs) := hr3; have HK3 : Hid (Below G w2 w3) := hb3; clear hr3 hb3) | fail)
  have HB3 : Hid (Below w.heap.size w w3) := below_two HB2.out (below_low HK3.out (by have h1 := HAG.out.1; have h2 := HAA.out; omega))
  have HNA3 : Hid (NB w3 A ⟨5, s, a, 1, c, (M : Nat), mx⟩) := (HK3.out.block A HAG.out.1).trans HNA2.out
  clear y0 y1 y2 y3 y4 y5 y6 y7 HR2 HNA2 HB2 HF2 HK3
  have HI0 : Hid (Img (powR (Tk line t) 0) fs fs) := fun j => by
    constructor
    · exact fun h => ⟨j, h, rfl⟩
    · rintro ⟨i, h, ht⟩
      have ht : j = i := ht
      subst ht
      exact h
  have HL3 : Hid (Below w0.heap.size w0 w3) := below_two HLW.out (below_low HB3.out HLW.out.size)
  have hrow := (HRO.out.keep (w' := w3) (Y := fun _ => True) (fun _ _ _ => trivial) (fun b hb hlt => HL3.out.block b hlt)).nth (i := 0) rfl
  obtain ⟨g0, off, hgo, _⟩ := hrow
  subst hgo
  clear HL3
  go_wp2_with fail
  go_loopw [7, 13] (fun v7 i u => ∃ (k g c' : Nat) (bk : List Bool), v7 = .slice (some ⟨g, 0, none⟩) N c' ∧ i = .int .i64 (k : Nat) ∧ k ≤ M ∧ Hid (RowB u w.heap.size (.slice (some ⟨g, 0, none⟩) N c') bk) ∧ Hid (Below w.heap.size w u) ∧ Hid (NB u A ⟨5, s, some ⟨g0, off, none⟩, 1, c, (M : Nat), mx⟩) ∧ Hid (Img (powR (Tk line t) k) fs bk)) (fun _ i _ => M - (intOf i).toNat)
  case atStart => exact ⟨0, G, N, fs, rfl, rfl, Nat.zero_le _, HR3, HB3, HNA3, HI0⟩
  case round =>
    clear HR3 HB3 HI0 HNA3
    obtain ⟨k, g, c', bk, rfl, rfl, hk, HRk, HBk, HNk, HIk⟩ := hrel
    have HLr : Hid (Below w0.heap.size w0 wr) := below_two HLW.out (below_low HBk.out HLW.out.size)
    obtain ⟨y0, y1, y2, y3, y4, y5, y6, y7⟩ := HNk.out.cells
    simp only at y0 y1 y2 y3 y4 y5 y6 y7
    by_cases hlt : k < M
    · have hlt' : (k : Int) < (M : Int) := by omega
      have hrow := (HRO.out.keep (w' := wr) (Y := fun _ => True) (fun _ _ _ => trivial) (fun b hb hlt => HLr.out.block b hlt)).nth (i := 0) rfl
      obtain ⟨g', off', hgo, e0, e1, e2, e3, e4, e5, e6, e7⟩ := hrow
      cases hgo
      simp only [Nat.zero_mul, Nat.add_zero] at e0 e1 e2 e3 e4 e5 e6 e7
      have hbl : bk.length = line.size + 1 := by rw [HN.out]; exact HRk.out.lt.2.1.symm
      have HC : Hid (Calls Try.prog 35 #[v.val, .string line, .slice (some ⟨g, 0, none⟩) (line.size + 1) c'] wr _) := HIH.out wr g c' bk HLr.out hbl HRk.out.bat
      rw [HN.out] at HC
      clear hbl
      unfold Nd.val at HC
      go_wp2_with fail
      refine HC.out.mono ?_
      rintro e wy ⟨ky, g2, c2, b2, rfl, hr2, hi2⟩
      have HRy : Hid (RowB wy w.heap.size (.slice (some ⟨g2, 0, none⟩) N c2) b2) := rowB_low hr2 HBk.out.size
      have HBy : Hid (Below w.heap.size w wy) := below_step HBk.out ky
      have HNy : Hid (NB wy A ⟨5, s, some ⟨g0, off, none⟩, 1, c, (M : Nat), mx⟩) := HNk.out.later ky
      have HIy : Hid (Img (powR (Tk line t) (k + 1)) fs b2) := (HIk.out.then hi2).congr (fun i j => by
        rw [powR_add]
        constructor
        · rintro ⟨x, h1, h2⟩; exact ⟨x, h1, (powR_one _ x j).2 h2⟩
        · rintro ⟨x, h1, h2⟩; exact ⟨x, h1, (powR_one _ x j).1 h2⟩)
      clear hr2 hi2 ky HC HRk HBk HNk HIk HLr y0 y1 y2 y3 y4 y5 y6 y7 e0 e1 e2 e3 e4 e5 e6 e7
      go_wp2
      go_roundw
      case rel => exact ⟨k + 1, g2, c2, b2, rfl, by go_num, by omega, HRy, HBy, HNy, HIy⟩
      case measure => simp [intOf]; omega
    · have hlt' : ¬ (k : Int) < (M : Int) := by omega
      have hkM : M = k := by omega
      subst hkM
      obtain ⟨w4, hw4⟩ : ∃ w4 : World, w4 = wr := ⟨_, rfl⟩
      subst hw4
      have kk : Below w4.heap.size w4 (w4.alloc (.cells #[] 4)) := (Below.refl _ _).alloc (Nat.le_refl _) _
      have HRe : Hid (RowB (w4.alloc (.cells #[] 4)) w4.heap.size (.slice (some ⟨w4.heap.size, 0, none⟩) 0 0) []) := rowB_empty w4 w4.heap.size (Nat.le_refl _)
      have HR5 : Hid (RowB (w4.alloc (.cells #[] 4)) w.heap.size (.slice (some ⟨g, 0, none⟩) N c') bk) := rowB_later HRk.out kk
      have HB5 : Hid (Below w.heap.size w (w4.alloc (.cells #[] 4))) := below_step HBk.out kk
      have HN5 : Hid (NB (w4.alloc (.cells #[] 4)) A ⟨5, s, some ⟨g0, off, none⟩, 1, c, (M : Nat), mx⟩) := HNk.out.later kk
      have HBL : Hid (bk.length = N) := HRk.out.lt.2.1.symm
      have HGL : Hid (g < w4.heap.size) := HRk.out.lt.1
      have HAL : Hid (A < w4.heap.size) := HNk.out.lt
      have HRUN : Hid (∀ ty, ∃ g' c2 w', (Builtin.append_ #[73, 73] ty #[.slice (some ⟨w4.heap.size, 0, none⟩) 0 0, .slice (some ⟨g, 0, none⟩) N c']).run Try.prog (w4.alloc (.cells #[] 4)) = .ok (.slice (some ⟨g', 0, none⟩) N c2) w' ∧ RowB w' w4.heap.size (.slice (some ⟨g', 0, none⟩) N c2) bk ∧ (w4.alloc (.cells #[] 4)).grownBy w' (some w4.heap.size) ∧ (g' = w4.heap.size ∨ (w4.alloc (.cells #[] 4)).heap.size ≤ g')) := fun ty => run_append_bools _ ty w4.heap.size w4.heap.size HRe.out g N c' bk HBL.out (by have := HN.out; omega) (by omega) HR5.out.bat (by simp)
      clear kk HRk HBk HNk HLr
      go_upto_region 35 with (at_builtin; go_must (refine wpList_append_by (V := fun g' c2 => .slice (some ⟨g', 0, none⟩) N c2) (K := fun g' c2 _ w' => RowB w' w4.heap.size (.slice (some ⟨g', 0, none⟩) N c2) bk ∧ (w4.alloc (.cells #[] 4)).grownBy w' (some w4.heap.size) ∧ (g' = w4.heap.size ∨ (w4.alloc (.cells #[] 4)).heap.size ≤ g')) rfl _ _ rfl (.slice (some ⟨w4.heap.size, 0, none⟩) 0 0) (.slice (some ⟨g, 0, none⟩) N c') rfl rfl HRUN.out ?_; rintro vv w6 ⟨h, ch, rfl, hr6, hg6, hgg6⟩; have HS6 : Hid (RowB w6 w4.heap.size (.slice (some ⟨h, 0, none⟩) N ch) bk) := hr6; have HG6 : Hid ((w4.alloc (.cells #[] 4)).grownBy w6 (some w4.heap.size)) := hg6; clear hr6 hg6 hgg6))
      have HR6 : Hid (RowB w6 w.heap.size (.slice (some ⟨g, 0, none⟩) N c') bk) := HR5.out.same (HG6.out.block g HR5.out.lt.1 (fun e => by cases e; have := HGL.out; omega))
      have HN6 : Hid (NB w6 A ⟨5, s, some ⟨g0, off, none⟩, 1, c, (M : Nat), mx⟩) := (HG6.out.block A HN5.out.lt (fun e => by cases e; have := HAL.out; omega)).trans HN5.out
      have HB6 : Hid (Below w.heap.size w w6) := HB5.out.grown HG6.out HB5.out.size (fun kk hk => by cases hk; have h1 := HR5.out.lt.2.2; have h2 := HGL.out; omega)
      have HHG : Hid (h ≠ g) := by have h1 := HS6.out.lt.2.2; have h2 := HGL.out; show _ ≠ _; omega
      have HSo : Hid (Some (Tk line t) M 0 fs bk) := fun j => by
        rw [HIk.out j]
        constructor
        · exact fun hj => ⟨0, Nat.le_refl _, hj⟩
        · rintro ⟨q, hq, hj⟩
          have : q = 0 := by omega
          subst this
          exact hj
      clear HRe HR5 HB5 HN5 HRUN HG6 HAL HGL HBL y0 y1 y2 y3 y4 y5 y6 y7
      obtain ⟨y0, y1, y2, y3, y4, y5, y6, y7⟩ := HN6.out.cells
      simp only at y0 y1 y2 y3 y4 y5 y6 y7
      go_wp2_with fail
      clear y0 y1 y2 y3 y4 y5 y6 y7
      go_loopw [14, 15] (fun v14 i u => ∃ (r h ch : Nat) (bs ns : List Bool), v14 = .slice (some ⟨h, 0, none⟩) N ch ∧ i = .int .i64 ((M + r : Nat) : Int) ∧ r ≤ 100 ∧ Hid (RowB u w.heap.size (.slice (some ⟨g, 0, none⟩) N c') bs) ∧ Hid (BAt u h ns ∧ ns.length = N ∧ h ≠ g) ∧ Hid (Below w.heap.size w u) ∧ Hid (NB u A ⟨5, s, some ⟨g0, off, none⟩, 1, c, (M : Nat), mx⟩) ∧ Hid (Some (Tk line t) M r fs bs) ∧ Hid (Img (powR (Tk line t) (M + r)) fs ns) ∧ Hid ((mx = -1 ∨ ((M + r : Nat) : Int) ≤ mx) ∧ bs.count false + r ≤ N)) (fun _ _ u => cfw u g N)
      case atStart => exact ⟨0, h, ch, bk, bk, rfl, rfl, Nat.zero_le _, HR6, ⟨HS6.out.bat, HS6.out.lt.2.1.symm, HHG.out⟩, HB6, HN6, HSo, HIk, ⟨by rcases hmx with h | h; exact Or.inl h; exact Or.inr (by simpa using h.1), by have h1 := HR6.out.lt.2.1; have h2 := List.count_le_length (a := false) (l := bk); omega⟩⟩
      case round =>
        clear HR6 HS6 HHG HB6 HN6 HSo HIk
        obtain ⟨r, h, ch, bs, ns, rfl, rfl, hr100, HRr, HHr, HBr, HNr, HSr, HIr, HCr⟩ := hrel
        obtain ⟨I, hI⟩ : ∃ I, M + r = I := ⟨_, rfl⟩
        have HII : Hid (M + r = I) := hI
        rw [hI] at HIr HCr ⊢
        clear hI
        have hI9 : I ≤ 400 := by have := HII.out; omega
        have HLr : Hid (Below w0.heap.size w0 wr) := below_two HLW.out (below_low HBr.out HLW.out.size)
        obtain ⟨y0, y1, y2, y3, y4, y5, y6, y7⟩ := HNr.out.cells
        simp only at y0 y1 y2 y3 y4 y5 y6 y7
        by_cases hgo : mx = -1 ∨ (I : Int) < mx
        case neg =>
          have h1 : (mx == -1) = false := by simp; omega
          have h2 : ¬ (I : Int) < mx := by omega
          have HI : Hid (Img (Tk line (.mk 5 s [t] (M : Nat) mx)) fs bs) := fun j => by
            rw [HSr.out j]
            constructor
            · rintro ⟨q, hq, i, h3, h4⟩
              exact ⟨i, h3, (HTK.out i j).2 ⟨M + q, by omega, Or.inr (by have := HII.out; have := HCr.out.1; omega), h4⟩⟩
            · rintro ⟨i, h3, h4⟩
              obtain ⟨n, g1, g2, g3⟩ := (HTK.out i j).1 h4
              exact ⟨n - M, by have := HII.out; have := HCr.out.1; omega, i, h3, by rw [show M + (n - M) = n by omega]; exact g3⟩
          go_wp2
          go_ret
          exact ⟨HBr.out, g, c', bs, rfl, HRr.out, HI.out⟩
        have hrow := (HRO.out.keep (w' := wr) (Y := fun _ => True) (fun _ _ _ => trivial) (fun b hb hlt => HLr.out.block b hlt)).nth (i := 0) rfl
        obtain ⟨g', off', hgo, e0, e1, e2, e3, e4, e5, e6, e7⟩ := hrow
        cases hgo
        simp only [Nat.zero_mul, Nat.add_zero] at e0 e1 e2 e3 e4 e5 e6 e7
        have hbl : ns.length = line.size + 1 := by rw [HN.out]; exact HHr.out.2.1
        have HC : Hid (Calls Try.prog 35 #[v.val, .string line, .slice (some ⟨h, 0, none⟩) (line.size + 1) ch] wr _) := HIH.out wr h ch ns HLr.out hbl HHr.out.1
        rw [HN.out] at HC
        clear hbl
        unfold Nd.val at HC
        have HGO : Hid (mx = -1 ∨ (I : Int) < mx) := hgo
        have hgob : ((mx == -1) = true ∨ (mx == -1) = false ∧ (I : Int) < mx) := by
          by_cases h1 : mx = -1
          · exact Or.inl (by simp [h1])
          · exact Or.inr ⟨by simp [h1], by omega⟩
        clear hgo
        have HEND : Hid (∀ (wy : World) (g2 c2 : Nat) (b2 : List Bool), Below wr.heap.size wr wy → RowB wy wr.heap.size (.slice (some ⟨g2, 0, none⟩) N c2) b2 → Img (Tk line t) ns b2 → Calls Try.prog 57 #[.slice (some ⟨g, 0, none⟩) N c', .slice (some ⟨g2, 0, none⟩) N c2] wy (AddPost wy w.heap.size g N c' bs b2)) := fun wy g2 c2 b2 ky hr2 _ => add_any wy (rowB_later HRr.out ky) hr2.bat hr2.lt.2.1.symm (by have h1 := hr2.lt.2.2; have h2 := HRr.out.lt.1; omega) (by omega)
        rcases hgob with hb1 | ⟨hb1, hb2⟩
        all_goals
          go_wp2_with fail
          refine HC.out.mono ?_
          rintro e wy ⟨ky, g2, c2, b2, rfl, hr2, hi2⟩
          have HC2 : Hid (Calls Try.prog 57 #[.slice (some ⟨g, 0, none⟩) N c', .slice (some ⟨g2, 0, none⟩) N c2] wy _) := HEND.out wy g2 c2 b2 ky hr2 hi2
          have HRy : Hid (RowB wy w.heap.size (.slice (some ⟨g, 0, none⟩) N c') bs) := rowB_later HRr.out ky
          have HBy : Hid (Below w.heap.size w wy) := below_step HBr.out ky
          have HNy : Hid (NB wy A ⟨5, s, some ⟨g0, off, none⟩, 1, c, (M : Nat), mx⟩) := HNr.out.later ky
          have HSy : Hid (BAt wy g2 b2 ∧ b2.length = N ∧ g2 ≠ g) := ⟨hr2.bat, hr2.lt.2.1.symm, by have h1 := hr2.lt.2.2; have h2 := HRr.out.lt.1; omega⟩
          have HIy : Hid (Img (powR (Tk line t) (I + 1)) fs b2) := (HIr.out.then hi2).congr (fun i j => by
            rw [powR_add]
            constructor
            · rintro ⟨x, h1, h2⟩; exact ⟨x, h1, (powR_one _ x j).2 h2⟩
            · rintro ⟨x, h1, h2⟩; exact ⟨x, h1, (powR_one _ x j).1 h2⟩)
          have HM0 : Hid (cfw wr g N = bs.count false) := HRr.out.cf
          clear hr2 hi2 ky HC HEND HRr HBr HNr HHr HLr y0 y1 y2 y3 y4 y5 y6 y7 e0 e1 e2 e3 e4 e5 e6 e7
          go_wp2_with fail
          refine HC2.out.mono ?_
          rintro e wz ⟨ok, b3, rfl, hr3, hg3, hi3, hf3, ht3⟩
          have HRz : Hid (RowB wz w.heap.size (.slice (some ⟨g, 0, none⟩) N c') b3) := hr3
          have HBz : Hid (Below w.heap.size w wz) := HBy.out.grown hg3 HBy.out.size (fun kk hk => by cases hk; exact HRy.out.lt.2.2)
          have HNz : Hid (NB wz A ⟨5, s, some ⟨g0, off, none⟩, 1, c, (M : Nat), mx⟩) := (hg3.block A HNy.out.lt (fun e => by cases e; exact absurd (TyB.ne ⟨_, _, HNy.out⟩ HRy.out.ty) (by decide))).trans HNy.out
          have HSz : Hid (BAt wz g2 b2 ∧ b2.length = N ∧ g2 ≠ g) := ⟨HSy.out.1.same (hg3.block g2 (bat_lt HSy.out.1 HSy.out.2.1 (by have := HN.out; omega)) (fun e => by cases e; exact HSy.out.2.2 rfl)), HSy.out.2⟩
          have HSo2 : Hid (Some (Tk line t) M (r + 1) fs b3) := fun j => by
            rw [hi3 j, HSr.out j, HIy.out j]
            constructor
            · rintro (⟨q, h1, h2⟩ | ⟨i, h1, h2⟩)
              · exact ⟨q, by omega, h2⟩
              · exact ⟨r + 1, Nat.le_refl _, i, h1, by rw [show M + (r + 1) = I + 1 by have := HII.out; omega]; exact h2⟩
            · rintro ⟨q, h1, i, h2, h3⟩
              by_cases hq : q ≤ r
              · exact Or.inl ⟨q, hq, i, h2, h3⟩
              · exact Or.inr ⟨i, h2, by rw [show I + 1 = M + q by have := HII.out; omega]; exact h3⟩
          have HFIN : Hid (ok = false → Img (Tk line (.mk 5 s [t] (M : Nat) mx)) fs b3) := fun hok j => by
            have hb3 := hf3 hok
            have hsub : ∀ j, bt b2 j → bt bs j := fun j hj => by have := (hi3 j).2 (Or.inr hj); rw [hb3] at this; exact this
            have hstop := some_stop HSr.out (by rw [HII.out]; exact HIy.out) hsub
            rw [hb3]
            constructor
            · intro hj
              obtain ⟨q, hq, i, h3, h4⟩ := (HSr.out j).1 hj
              exact ⟨i, h3, (HTK.out i j).2 ⟨M + q, by omega, by have := HII.out; have := HCr.out.1; omega, h4⟩⟩
            · rintro ⟨i, h3, h4⟩
              obtain ⟨n, g1, _, g3⟩ := (HTK.out i j).1 h4
              exact hstop (n - M) j ⟨i, h3, by rw [show M + (n - M) = n by omega]; exact g3⟩
          have HCT : Hid (ok = true → b3.count false < bs.count false) := ht3
          have HM1 : Hid (cfw wz g N = b3.count false) := hr3.cf
          clear hr3 hg3 hi3 hf3 ht3 HC2 HRy HBy HNy HSy
          cases ok with
          | false =>
            have HI := HFIN.out rfl
            go_wp2
            go_ret
            exact ⟨HBz.out, g, c', b3, rfl, HRz.out, HI⟩
          | true =>
            have hct := HCT.out rfl
            have hcc := HCr.out.2
            go_wp2
            go_roundw
            case rel => exact ⟨r + 1, g2, c2, b3, b2, rfl, by have := HII.out; go_num, by omega, HRz, HSz, HBz, HNz, HSo2, by rw [show M + (r + 1) = I + 1 by have := HII.out; omega]; exact HIy, ⟨by have := HII.out; have := HGO.out; omega, by omega⟩⟩
            case measure => rw [HM1.out, HM0.out]; exact hct
end Go.Proofs.Ytjmbimgofceanaa

/- heronlaw07's ends: of a set. -/
namespace Go.Proofs.Ytjmbimgofceanaa
open Go.RowKit
attribute [local go_sem ↓] Go.wp_at_zero Go.wp_at_succ

set_option maxRecDepth 4000 in
set_option maxHeartbeats 8000000 in
theorem ends_2 {w0 : World} {line : ByteArray} (hl60 : line.size ≤ 60) {s : Oct.S} {subs : List Tn} {mn mx : Int} {a : Option Addr} {n c : Nat} : EndsV w0 line (.mk 2 s subs mn mx) ⟨2, s, a, n, c, mn, mx⟩ := by
  intro w gf cf fs hlow hfl hfs
  obtain ⟨N, hN⟩ : ∃ N, line.size + 1 = N := ⟨_, rfl⟩
  rw [hN] at hfl ⊢
  have hNI : (line.size : Int) + 1 = (N : Nat) := by omega
  have hN6 : N ≤ 61 := by omega
  have HN : Hid (line.size + 1 = N) := hN
  have kk : Below w.heap.size w (w.alloc (.cells #[.int .i64 2, .int .u64 (Oct.word s 0 : Nat), .int .u64 (Oct.word s 1 : Nat), .int .u64 (Oct.word s 2 : Nat), .int .u64 (Oct.word s 3 : Nat), .slice a n c, .int .i64 mn, .int .i64 mx] 30)) := (Below.refl _ _).alloc (Nat.le_refl _) _
  have HNA : Hid (NB (w.alloc (.cells #[.int .i64 2, .int .u64 (Oct.word s 0 : Nat), .int .u64 (Oct.word s 1 : Nat), .int .u64 (Oct.word s 2 : Nat), .int .u64 (Oct.word s 3 : Nat), .slice a n c, .int .i64 mn, .int .i64 mx] 30)) w.heap.size ⟨2, s, a, n, c, mn, mx⟩) := nb_new w ⟨2, s, a, n, c, mn, mx⟩
  have HB : Hid (Below w.heap.size w (w.alloc (.cells #[.int .i64 2, .int .u64 (Oct.word s 0 : Nat), .int .u64 (Oct.word s 1 : Nat), .int .u64 (Oct.word s 2 : Nat), .int .u64 (Oct.word s 3 : Nat), .slice a n c, .int .i64 mn, .int .i64 mx] 30))) := kk
  have HF : Hid (BAt (w.alloc (.cells #[.int .i64 2, .int .u64 (Oct.word s 0 : Nat), .int .u64 (Oct.word s 1 : Nat), .int .u64 (Oct.word s 2 : Nat), .int .u64 (Oct.word s 3 : Nat), .slice a n c, .int .i64 mn, .int .i64 mx] 30)) gf fs) := hfs.later kk
  have HGF : Hid (gf < w.heap.size) := bat_lt hfs hfl (by omega)
  obtain ⟨w1, hw1⟩ : ∃ w1, w.alloc (.cells #[.int .i64 2, .int .u64 (Oct.word s 0 : Nat), .int .u64 (Oct.word s 1 : Nat), .int .u64 (Oct.word s 2 : Nat), .int .u64 (Oct.word s 3 : Nat), .slice a n c, .int .i64 mn, .int .i64 mx] 30) = w1 := ⟨_, rfl⟩
  rw [hw1] at HNA HB HF
  obtain ⟨A, hA⟩ : ∃ A, w.heap.size = A := ⟨_, rfl⟩
  rw [hA] at HNA
  have HW1 : Hid (w.alloc (.cells #[.int .i64 2, .int .u64 (Oct.word s 0 : Nat), .int .u64 (Oct.word s 1 : Nat), .int .u64 (Oct.word s 2 : Nat), .int .u64 (Oct.word s 3 : Nat), .slice a n c, .int .i64 mn, .int .i64 mx] 30) = w1) := hw1
  have HAA : Hid (w.heap.size = A) := hA
  have HLW : Hid (Below w0.heap.size w0 w) := hlow
  have HFL : Hid (fs.length = N) := hfl
  clear hw1 hA hlow kk hfs hfl hN
  unfold Nd.val
  simp only
  go_enter Try.func35, Try.ntmps35
  go_upto_region 1 with fail
  rw [HW1.out, HAA.out]
  clear HW1
  go_upto_region 2 with (first | (refine wpList_make_bool rfl _ _ rfl w.heap.size N HB.out.size (by show _ = Value.int .i64 ((N : Nat) : Int); rw [← hNI]; rfl) (by show _ = Value.int .i64 ((N : Nat) : Int); rw [← hNI]; rfl) (by omega) ?_; intro w2 hr2 hb2; have HR2 : Hid (RowB w2 w.heap.size (.slice (some ⟨w1.heap.size, 0, none⟩) N N) (List.replicate N false)) := hr2; have HK2 : Hid (Below w1.heap.size w1 w2) := hb2; clear hr2 hb2) | fail)
  obtain ⟨G, hG⟩ : ∃ G, w1.heap.size = G := ⟨_, rfl⟩
  rw [hG] at HR2 ⊢
  have HAG : Hid (A < G ∧ gf < G) := by have h1 := HNA.out.lt; have h2 := HGF.out; have h3 := HAA.out; exact ⟨by omega, by omega⟩
  have HNA2 : Hid (NB w2 A ⟨2, s, a, n, c, mn, mx⟩) := HNA.out.later HK2.out
  have HB2 : Hid (Below w.heap.size w w2) := below_step HB.out HK2.out
  have HF2 : Hid (BAt w2 gf fs) := HF.out.later HK2.out
  clear hG HNA HB HF HK2
  obtain ⟨y0, y1, y2, y3, y4, y5, y6, y7⟩ := HNA2.out.cells
  simp only at y0 y1 y2 y3 y4 y5 y6 y7
  go_wp2_with fail
  clear y0 y1 y2 y3 y4 y5 y6 y7
  go_loopw [8] (fun i u => ∃ (k : Nat) (bk : List Bool), i = .int .i64 (k : Nat) ∧ k ≤ line.size ∧ Hid (RowB u w.heap.size (.slice (some ⟨G, 0, none⟩) N N) bk) ∧ Hid (Below G w2 u) ∧ Hid (∀ j, bt bk j ↔ ∃ i, i < k ∧ bt fs i ∧ s (byt line i) = true ∧ j = i + 1)) (fun i _ => line.size - (intOf i).toNat)
  case atStart => exact ⟨0, _, rfl, Nat.zero_le _, HR2, Below.refl _ _, fun j => ⟨fun h => absurd h (bt_rep N j), fun ⟨i, h, _⟩ => by omega⟩⟩
  case round =>
    clear HR2
    obtain ⟨k, bk, rfl, hk, HRk, HKk, HIk⟩ := hrel
    have HNAk : Hid (NB wr A ⟨2, s, a, n, c, mn, mx⟩) := (HKk.out.block A HAG.out.1).trans HNA2.out
    have HFk : Hid (BAt wr gf fs) := HF2.out.same (HKk.out.block gf HAG.out.2)
    by_cases hlt : k < line.size
    · have hlt' : (k : Int) < (line.size : Int) := by omega
      obtain ⟨p, hp⟩ : ∃ p, fs[k]? = some p := ⟨_, List.getElem?_eq_getElem (by rw [HFL.out]; omega)⟩
      obtain ⟨bb, hbb⟩ : ∃ bb, byt line k = bb := ⟨_, rfl⟩
      have hbq : (line[k]'hlt).toNat = bb := by rw [← hbb, byt_eq hlt]
      have HBL : Hid (bb < 256) := by rw [← hbb]; exact byt_lt line k
      have HBB : Hid (byt line k = bb) := hbb
      have HPP : Hid (fs[k]? = some p) := hp
      have hkN : (k : Int) < (N : Nat) := by omega
      have HNL : Hid (∀ u : Later wr, NB u.at_ A ⟨2, s, a, n, c, mn, mx⟩) := fun u => (u.below.block A HNAk.out.lt).trans HNAk.out
      have g1 : ∀ u : Later wr, u.at_.cell? ⟨A, 1, none⟩ = some (.int .u64 (Oct.word s 0 : Nat)) := fun u => (HNL.out u).cells.2.1
      have g2 : ∀ u : Later wr, u.at_.cell? ⟨A, 2, none⟩ = some (.int .u64 (Oct.word s 1 : Nat)) := fun u => (HNL.out u).cells.2.2.1
      have g3 : ∀ u : Later wr, u.at_.cell? ⟨A, 3, none⟩ = some (.int .u64 (Oct.word s 2 : Nat)) := fun u => (HNL.out u).cells.2.2.2.1
      have g4 : ∀ u : Later wr, u.at_.cell? ⟨A, 4, none⟩ = some (.int .u64 (Oct.word s 3 : Nat)) := fun u => (HNL.out u).cells.2.2.2.2.1
      have c1 : ∀ u : Later wr, u.at_.cell? ⟨gf, k, none⟩ = some (.bool p) := fun u => (World.cell?_of_block (w := wr) (u.below.block gf (lt_of_cell (HFk.out k p HPP.out)))).trans (HFk.out k p HPP.out)
      have hne : Nonempty (Later wr) := ⟨⟨wr, Below.refl _ _⟩⟩
      clear hp hbb
      obtain ⟨tk, htk⟩ : ∃ tk, (p && s bb) = tk := ⟨_, rfl⟩
      have HTK : Hid ((p && s bb) = tk) := htk
      clear htk
      go_upto_region 13 with fail
      go_cut [72] (fun v wx => v = .bool tk ∧ Hid (Below wr.heap.size wr wx))
      case first =>
        cases p with
        | false =>
          have htf : tk = false := by rw [← HTK.out]; rfl
          refine wp_region_later (by kernel_rfl) (by kernel_rfl) ?_
          repeat (first
            | go_big_quiet_step (fail)
            | quiet_step (fail))
          refine wpQuiet_nil ?_
          intro _ hw'
          obtain ⟨u, hw''⟩ := hw'
          subst hw''
          go_wp2_with fail
          go_meet
          case rel => exact ⟨by rw [htf], u.below⟩
        | true =>
          have HTS : Hid (tk = s bb) := by show _ = _; rw [← HTK.out]; simp
          rcases quo4 HBL.out with ⟨hn, hq⟩ | ⟨hn, hq⟩ | ⟨hn, hq⟩ | ⟨hn, hq⟩
          all_goals
            have HNQ : Hid (bb / 64 = _) := hn
            clear hn
            refine wp_region_later (by kernel_rfl) (by kernel_rfl) ?_
            repeat (first
              | go_big_quiet_step (fail)
              | quiet_step (fail))
            refine wpQuiet_nil ?_
            intro _ hw'
            obtain ⟨u, hw''⟩ := hw'
            subst hw''
            go_wp2_with fail
            go_meet
            case rel => exact ⟨by rw [HTS.out, ← has_bit s bb _ HNQ.out], u.below⟩
      case rest =>
        obtain ⟨rfl, HKx⟩ := hcut
        have HRx : Hid (RowB wc w.heap.size (.slice (some ⟨G, 0, none⟩) N N) bk) := rowB_later HRk.out HKx.out
        have HKy : Hid (Below G w2 wc) := below_two HKk.out (below_low HKx.out (by have := HRk.out.lt.1; omega))
        have hkl : bk.length = N := HRk.out.lt.2.1.symm
        have HST : Hid (tk = false → ∀ j, bt bk j ↔ ∃ i, i < k + 1 ∧ bt fs i ∧ s (byt line i) = true ∧ j = i + 1) := fun h0 j => by
          rw [HIk.out j]
          constructor
          · rintro ⟨i, h1, h2⟩; exact ⟨i, by omega, h2⟩
          · rintro ⟨i, h1, h2, h3, h4⟩
            by_cases hik : i = k
            · subst hik
              rw [HBB.out] at h3
              rw [← HTK.out, (bt_of HPP.out).1 h2, h3] at h0
              cases h0
            · exact ⟨i, by omega, h2, h3, h4⟩
        clear HRk HKk g1 g2 g3 g4 c1 hne HNL HNAk HFk
        cases tk with
        | false =>
          have HI2 := HST.out rfl
          go_wp2
          go_roundw
          case rel => exact ⟨k + 1, bk, by go_num, by omega, HRx, HKy, HI2⟩
          case measure => simp [intOf]; omega
        | true =>
          obtain ⟨k1, hk1⟩ : ∃ k1, k + 1 = k1 := ⟨_, rfl⟩
          have hk1I : (k : Int) + 1 = (k1 : Nat) := by omega
          have hk1N : (k1 : Int) < (N : Nat) := by omega
          obtain ⟨b1, hb1⟩ : ∃ b1, bk[k1]? = some b1 := ⟨_, List.getElem?_eq_getElem (by rw [hkl]; omega)⟩
          obtain ⟨cb, fb⟩ := HRx.out.cell hb1
          have HR3 : Hid (RowB (wc.setCell ⟨G, k1, none⟩ (.bool true)) w.heap.size (.slice (some ⟨G, 0, none⟩) N N) (bk.set k1 true)) := HRx.out.put k1 true
          have HK3 : Hid (Below G w2 (wc.setCell ⟨G, k1, none⟩ (.bool true))) := HKy.out.setCell (p := ⟨G, k1, none⟩) (Nat.le_refl _) _
          have HI3 : Hid (∀ j, bt (bk.set k1 true) j ↔ ∃ i, i < k1 ∧ bt fs i ∧ s (byt line i) = true ∧ j = i + 1) := fun j => by
            rw [bt_set (by rw [hkl]; omega), HIk.out j]
            constructor
            · rintro (⟨i, h1, h2⟩ | h1)
              · exact ⟨i, by omega, h2⟩
              · have hps : p = true ∧ s bb = true := by have := HTK.out; simpa using this
                exact ⟨k, by omega, (bt_of HPP.out).2 hps.1, by rw [HBB.out]; exact hps.2, by omega⟩
            · rintro ⟨i, h1, h2, h3, h4⟩
              by_cases hik : i = k
              · exact Or.inr (by omega)
              · exact Or.inl ⟨i, by omega, h2, h3, h4⟩
          have HK1 : Hid (k + 1 = k1) := hk1
          clear hb1 hk1 HRx HKy hkl HST
          go_wp2
          go_roundw
          case rel => exact ⟨k1, bk.set k1 true, rfl, by have := HK1.out; omega, HR3, HK3, HI3⟩
          case measure => simp [intOf]; have := HK1.out; omega
    · have hlt' : ¬ (k : Int) < (line.size : Int) := by omega
      have HB3 : Hid (Below w.heap.size w wr) := below_two HB2.out (below_low HKk.out (by have h1 := HAG.out.1; have h2 := HAA.out; omega))
      have HI : Hid (Img (Tk line (.mk 2 s subs mn mx)) fs bk) := fun j => by
        rw [HIk.out j]
        constructor
        · rintro ⟨i, h1, h2, h3, h4⟩
          exact ⟨i, h2, by rw [Tk]; simp; exact ⟨by omega, h3, h4⟩⟩
        · rintro ⟨i, h2, ht⟩
          rw [Tk] at ht
          simp at ht
          exact ⟨i, by omega, h2, ht.2.1, ht.2.2⟩
      go_wp2
      go_ret
      exact ⟨HB3.out, G, N, bk, rfl, HRk.out, HI.out⟩
end Go.Proofs.Ytjmbimgofceanaa

/- heronlaw07's ends of any tree; takes. -/
namespace Go.Proofs.Ytjmbimgofceanaa
open Go.RowKit
attribute [local go_sem ↓] Go.wp_at_zero Go.wp_at_succ

theorem ends_any {w0 : World} {line : ByteArray} (hl60 : line.size ≤ 60) {t : Tn} {x : Nd} (h : InAt w0 t x) : (plc t).2 = true → EndsV w0 line t x := by
  induction h with
  | mk k s subs mn mx a n c vs hn hl hm hr hin ih =>
    intro hp
    obtain ⟨hsh, hsub⟩ := plc_subs hp
    have hs : ∀ (i : Nat) (t : Tn) (v : Nd), subs[i]? = some t → vs[i]? = some v → EndsV w0 line t v := fun i t v ht hv => ih i t v ht hv (hsub t (List.mem_of_getElem? ht))
    rcases shp_kind hsh with rfl | rfl | rfl | rfl | rfl | rfl | rfl
    · exact ends_1 hl60
    · exact ends_2 hl60
    · exact ends_3 hl60 hn hl hm hr hs
    · exact ends_4 hl60 hn hl hm hr hs
    · obtain ⟨h1, hmn, hmx⟩ := shp_five hsh
      match subs, vs, hn, hl, h1 with
      | [u], [v], hn, hl, _ =>
        have hn : n = 1 := hn
        subst hn
        obtain ⟨M, rfl⟩ : ∃ M : Nat, mn = (M : Nat) := ⟨mn.toNat, by omega⟩
        exact ends_5 hl60 hr (hs 0 u v rfl rfl) (by omega) hmx
      | [u], [], hn, hl, _ => simp at hn hl; omega
      | [u], _ :: _ :: _, hn, hl, _ => simp at hn hl; omega
    · exact ends_6 hl60
    · exact ends_7 hl60
/-- WHAT takes LEAVES. -/
def TakesPost (w : World) (N : Nat) (T : Nat → Nat → Prop) (e : Ending) (w' : World) : Prop := Below w.heap.size w w' ∧ ∃ b : Bool, e = .returned (.bool b) ∧ (b = true ↔ ∃ i j, i < N ∧ T i j)
set_option maxRecDepth 4000 in
set_option maxHeartbeats 8000000 in
theorem takes_any {line : ByteArray} (hl60 : line.size ≤ 60) {t : Tn} {x : Nd} (w : World) (hin : InAt w t x) (hp : (plc t).2 = true) : Calls Try.prog 15 #[x.val, .string line] w (TakesPost w (line.size + 1) (Tk line t)) := by
  obtain ⟨N, hN⟩ : ∃ N, line.size + 1 = N := ⟨_, rfl⟩
  rw [hN]
  have hNI : (line.size : Int) + 1 = (N : Nat) := by omega
  have hN6 : N ≤ 61 := by omega
  have HN : Hid (line.size + 1 = N) := hN
  have kk : Below w.heap.size w (w.alloc (.cells #[.int .i64 x.k, .int .u64 (Oct.word x.s 0 : Nat), .int .u64 (Oct.word x.s 1 : Nat), .int .u64 (Oct.word x.s 2 : Nat), .int .u64 (Oct.word x.s 3 : Nat), .slice x.a x.n x.c, .int .i64 x.mn, .int .i64 x.mx] 30)) := (Below.refl _ _).alloc (Nat.le_refl _) _
  have HNA : Hid (NB (w.alloc (.cells #[.int .i64 x.k, .int .u64 (Oct.word x.s 0 : Nat), .int .u64 (Oct.word x.s 1 : Nat), .int .u64 (Oct.word x.s 2 : Nat), .int .u64 (Oct.word x.s 3 : Nat), .slice x.a x.n x.c, .int .i64 x.mn, .int .i64 x.mx] 30)) w.heap.size x) := nb_new w x
  have HB : Hid (Below w.heap.size w (w.alloc (.cells #[.int .i64 x.k, .int .u64 (Oct.word x.s 0 : Nat), .int .u64 (Oct.word x.s 1 : Nat), .int .u64 (Oct.word x.s 2 : Nat), .int .u64 (Oct.word x.s 3 : Nat), .slice x.a x.n x.c, .int .i64 x.mn, .int .i64 x.mx] 30))) := kk
  obtain ⟨w1, hw1⟩ : ∃ w1, w.alloc (.cells #[.int .i64 x.k, .int .u64 (Oct.word x.s 0 : Nat), .int .u64 (Oct.word x.s 1 : Nat), .int .u64 (Oct.word x.s 2 : Nat), .int .u64 (Oct.word x.s 3 : Nat), .slice x.a x.n x.c, .int .i64 x.mn, .int .i64 x.mx] 30) = w1 := ⟨_, rfl⟩
  rw [hw1] at HNA HB
  obtain ⟨A, hA⟩ : ∃ A, w.heap.size = A := ⟨_, rfl⟩
  rw [hA] at HNA
  have HW1 : Hid (w.alloc (.cells #[.int .i64 x.k, .int .u64 (Oct.word x.s 0 : Nat), .int .u64 (Oct.word x.s 1 : Nat), .int .u64 (Oct.word x.s 2 : Nat), .int .u64 (Oct.word x.s 3 : Nat), .slice x.a x.n x.c, .int .i64 x.mn, .int .i64 x.mx] 30) = w1) := hw1
  have HAA : Hid (w.heap.size = A) := hA
  have HEV : Hid (EndsV w line t x) := ends_any hl60 hin hp
  clear hw1 hA kk hin hp hN
  unfold Nd.val
  go_enter Try.func15, Try.ntmps15
  go_upto_region 1 with fail
  rw [HW1.out, HAA.out]
  clear HW1
  go_upto_region 2 with (first | (refine wpList_make_bool rfl _ _ rfl w.heap.size N HB.out.size (by show _ = Value.int .i64 ((N : Nat) : Int); rw [← hNI]; rfl) (by show _ = Value.int .i64 ((N : Nat) : Int); rw [← hNI]; rfl) (by omega) ?_; intro w2 hr2 hb2; have HR2 : Hid (RowB w2 w.heap.size (.slice (some ⟨w1.heap.size, 0, none⟩) N N) (List.replicate N false)) := hr2; have HK2 : Hid (Below w1.heap.size w1 w2) := hb2; clear hr2 hb2) | fail)
  obtain ⟨G, hG⟩ : ∃ G, w1.heap.size = G := ⟨_, rfl⟩
  rw [hG] at HR2 ⊢
  have HAG : Hid (A < G) := by have h1 := HNA.out.lt; show _ < _; omega
  have HNA2 : Hid (NB w2 A x) := HNA.out.later HK2.out
  have HB2 : Hid (Below w.heap.size w w2) := below_step HB.out HK2.out
  clear hG HNA HB HK2
  go_wp2_with fail
  go_loopw [15] (fun i u => ∃ (k : Nat) (bk : List Bool), i = .int .i64 (k : Nat) ∧ k ≤ N ∧ Hid (RowB u w.heap.size (.slice (some ⟨G, 0, none⟩) N N) bk) ∧ Hid (Below G w2 u) ∧ Hid (∀ j, bt bk j ↔ j < k)) (fun i _ => N - (intOf i).toNat)
  case atStart => exact ⟨0, _, rfl, Nat.zero_le _, HR2, Below.refl _ _, fun j => ⟨fun h => absurd h (bt_rep N j), fun h => by omega⟩⟩
  case round =>
    clear HR2
    obtain ⟨k, bk, rfl, hk, HRk, HKk, HIk⟩ := hrel
    have hkl : bk.length = N := HRk.out.lt.2.1.symm
    by_cases hlt : k < N
    · have hlt' : (k : Int) < (N : Int) := by omega
      obtain ⟨b, hb⟩ : ∃ b, bk[k]? = some b := ⟨_, List.getElem?_eq_getElem (by rw [hkl]; exact hlt)⟩
      obtain ⟨cb, fb⟩ := HRk.out.cell hb
      have HR3 : Hid (RowB (wr.setCell ⟨G, k, none⟩ (.bool true)) w.heap.size (.slice (some ⟨G, 0, none⟩) N N) (bk.set k true)) := HRk.out.put k true
      have HK3 : Hid (Below G w2 (wr.setCell ⟨G, k, none⟩ (.bool true))) := HKk.out.setCell (p := ⟨G, k, none⟩) (Nat.le_refl _) _
      have HI3 : Hid (∀ j, bt (bk.set k true) j ↔ j < k + 1) := fun j => by
        rw [bt_set (by rw [hkl]; exact hlt), HIk.out j]
        omega
      clear hb hkl
      go_wp2
      go_roundw
      case rel => exact ⟨k + 1, bk.set k true, by go_num, by omega, HR3, HK3, HI3⟩
      case measure => simp [intOf]; omega
    · have hlt' : ¬ (k : Int) < (N : Int) := by omega
      have hkN : k = N := by omega
      have HALL : Hid (∀ j, bt bk j ↔ j < N) := by rw [← hkN]; exact HIk.out
      have HNAr : Hid (NB wr A x) := (HKk.out.block A HAG.out).trans HNA2.out
      have HBr : Hid (Below w.heap.size w wr) := below_two HB2.out (below_low HKk.out (by have h1 := HAG.out; have h2 := HAA.out; omega))
      have HC : Hid (Calls Try.prog 35 #[x.val, .string line, .slice (some ⟨G, 0, none⟩) (line.size + 1) N] wr _) := HEV.out wr G N bk HBr.out (by rw [HN.out]; exact hkl) HRk.out.bat
      rw [HN.out] at HC
      unfold Nd.val at HC
      obtain ⟨y0, y1, y2, y3, y4, y5, y6, y7⟩ := HNAr.out.cells
      clear hkN hkl HIk
      go_wp2_with fail
      refine HC.out.mono ?_
      rintro e wy ⟨ky, g2, c2, b2, rfl, hr2, hi2⟩
      have HRy : Hid (RowB wy w.heap.size (.slice (some ⟨g2, 0, none⟩) N c2) b2) := rowB_low hr2 HBr.out.size
      have HBy : Hid (Below w.heap.size w wy) := below_step HBr.out ky
      have HIy : Hid (∀ j, bt b2 j ↔ ∃ i, i < N ∧ Tk line t i j) := fun j => by
        rw [hi2 j]
        constructor
        · rintro ⟨i, h1, h2⟩; exact ⟨i, (HALL.out i).1 h1, h2⟩
        · rintro ⟨i, h1, h2⟩; exact ⟨i, (HALL.out i).2 h1, h2⟩
      clear hr2 hi2 ky HC HRk HKk HNAr HBr HALL y0 y1 y2 y3 y4 y5 y6 y7
      go_wp2_with fail
      go_loopw [27] (fun i u => ∃ (j : Nat), i = .int .i64 (j : Nat) ∧ j ≤ N ∧ Hid (RowB u w.heap.size (.slice (some ⟨g2, 0, none⟩) N c2) b2) ∧ Hid (Below w.heap.size w u) ∧ Hid (∀ q, q < j → ¬ bt b2 q)) (fun i _ => N - (intOf i).toNat)
      case atStart => exact ⟨0, rfl, Nat.zero_le _, HRy, HBy, fun q hq => by omega⟩
      case round =>
        clear HRy HBy
        obtain ⟨j, rfl, hj, HRy, HBy, HNO⟩ := hrel
        have hbl : b2.length = N := HRy.out.lt.2.1.symm
        by_cases hlt2 : j < N
        · have hlt2' : (j : Int) < (N : Int) := by omega
          obtain ⟨b, hb⟩ : ∃ b, b2[j]? = some b := ⟨_, List.getElem?_eq_getElem (by rw [hbl]; exact hlt2)⟩
          obtain ⟨cb, fb⟩ := HRy.out.cell hb
          have HBB : Hid (b2[j]? = some b) := hb
          clear hb hbl
          cases b with
          | true =>
            have HT : Hid (∃ i j, i < N ∧ Tk line t i j) := by
              obtain ⟨i, h1, h2⟩ := (HIy.out j).1 ((bt_of HBB.out).2 rfl)
              exact ⟨i, j, h1, h2⟩
            go_wp2
            go_ret
            exact ⟨HBy.out, true, rfl, fun _ => HT.out, fun _ => rfl⟩
          | false =>
            have HN3 : Hid (∀ q, q < j + 1 → ¬ bt b2 q) := fun q hq hb => by
              by_cases e : q = j
              · subst e
                have := (bt_of HBB.out).1 hb
                cases this
              · exact HNO.out q (by omega) hb
            go_wp2
            go_roundw
            case rel => exact ⟨j + 1, by go_num, by omega, HRy, HBy, HN3⟩
            case measure => simp [intOf]; omega
        · have hlt2' : ¬ (j : Int) < (N : Int) := by omega
          have HF : Hid (¬ ∃ i j, i < N ∧ Tk line t i j) := fun ⟨i, q, h1, h2⟩ => by
            have hb := (HIy.out q).2 ⟨i, h1, h2⟩
            have := bt_lt hb
            exact HNO.out q (by omega) hb
          go_wp2
          go_ret
          exact ⟨HBy.out, false, rfl, (fun h => by cases h), fun h => absurd h HF.out⟩
end Go.Proofs.Ytjmbimgofceanaa
