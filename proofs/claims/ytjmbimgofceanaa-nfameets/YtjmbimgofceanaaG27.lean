/- heronlaw07's ends: of a row, of alternatives. -/
import Derived.Test.YtjmbimgofceanaaG26
namespace Go.Proofs.Ytjmbimgofceanaa
open Go.RowKit
attribute [local go_sem ↓] Go.wp_at_zero Go.wp_at_succ

theorem tkS_snoc (line : ByteArray) (t : Tn) : ∀ (ts : List Tn) (i j : Nat), TkS line (ts ++ [t]) i j ↔ ∃ k, TkS line ts i k ∧ Tk line t k j
  | [], i, j => by
    rw [List.nil_append, TkS]
    constructor
    · rintro ⟨k, h1, h2⟩
      rw [TkS] at h2
      subst h2
      exact ⟨i, by rw [TkS], h1⟩
    · rintro ⟨k, h1, h2⟩
      rw [TkS] at h1
      subst h1
      exact ⟨j, h2, by rw [TkS]⟩
  | u :: ts, i, j => by
    rw [List.cons_append, TkS]
    constructor
    · rintro ⟨k, h1, h2⟩
      obtain ⟨k', h3, h4⟩ := (tkS_snoc line t ts k j).1 h2
      exact ⟨k', by rw [TkS]; exact ⟨k, h1, h3⟩, h4⟩
    · rintro ⟨k', h1, h2⟩
      rw [TkS] at h1
      obtain ⟨k, h3, h4⟩ := h1
      exact ⟨k, h3, (tkS_snoc line t ts k j).2 ⟨k', h4, h2⟩⟩
theorem tkA_snoc (line : ByteArray) (t : Tn) : ∀ (ts : List Tn) (i j : Nat), TkA line (ts ++ [t]) i j ↔ TkA line ts i j ∨ Tk line t i j
  | [], i, j => by simp [TkA]
  | u :: ts, i, j => by rw [List.cons_append, TkA, TkA, tkA_snoc line t ts i j, or_assoc]
theorem Img.then {T U : Nat → Nat → Prop} {fs ms bs : List Bool} (h : Img T fs ms) (h2 : Img U ms bs) : Img (fun i j => ∃ k, T i k ∧ U k j) fs bs := fun j => by
  rw [h2 j]
  constructor
  · rintro ⟨k, h3, h4⟩
    obtain ⟨i, h5, h6⟩ := (h k).1 h3
    exact ⟨i, h5, k, h6, h4⟩
  · rintro ⟨i, h5, k, h6, h4⟩
    exact ⟨k, (h k).2 ⟨i, h5, h6⟩, h4⟩
theorem Img.congr {T U : Nat → Nat → Prop} {fs bs : List Bool} (h : Img T fs bs) (hT : ∀ i j, T i j ↔ U i j) : Img U fs bs := fun j => by
  rw [h j]
  constructor
  · rintro ⟨i, h1, h2⟩; exact ⟨i, h1, (hT i j).1 h2⟩
  · rintro ⟨i, h1, h2⟩; exact ⟨i, h1, (hT i j).2 h2⟩
theorem take_more {α : Type} {l : List α} {k : Nat} {t : α} (h : l[k]? = some t) : l.take (k + 1) = l.take k ++ [t] := by rw [List.take_add_one, h]; rfl
set_option maxRecDepth 4000 in
set_option maxHeartbeats 8000000 in
theorem ends_3 {w0 : World} {line : ByteArray} (hl60 : line.size ≤ 60) {s : Oct.S} {subs : List Tn} {mn mx : Int} {a : Option Addr} {n c : Nat} {vs : List Nd} (hn : n = subs.length) (hvl : vs.length = n) (hm : n ≤ 1000000) (hr : RowAt (fun _ => True) w0 a vs) (hs : ∀ (i : Nat) (t : Tn) (v : Nd), subs[i]? = some t → vs[i]? = some v → EndsV w0 line t v) : EndsV w0 line (.mk 3 s subs mn mx) ⟨3, s, a, n, c, mn, mx⟩ := by
  have HIH : Hid (∀ (i : Nat) (t : Tn) (v : Nd), subs[i]? = some t → vs[i]? = some v → EndsV w0 line t v) := hs
  have HRO : Hid (RowAt (fun _ => True) w0 a vs) := hr
  have HSN : Hid (n = subs.length) := hn
  have HVL : Hid (vs.length = n) := hvl
  clear hs hr hn hvl
  intro w gf cf fs hlow hfl hfs
  obtain ⟨N, hN⟩ : ∃ N, line.size + 1 = N := ⟨_, rfl⟩
  rw [hN] at hfl ⊢
  have hNI : (line.size : Int) + 1 = (N : Nat) := by omega
  have hN6 : N ≤ 61 := by omega
  have HN : Hid (line.size + 1 = N) := hN
  have kk : Below w.heap.size w (w.alloc (.cells #[.int .i64 3, .int .u64 (Oct.word s 0 : Nat), .int .u64 (Oct.word s 1 : Nat), .int .u64 (Oct.word s 2 : Nat), .int .u64 (Oct.word s 3 : Nat), .slice a n c, .int .i64 mn, .int .i64 mx] 30)) := (Below.refl _ _).alloc (Nat.le_refl _) _
  have HNA : Hid (NB (w.alloc (.cells #[.int .i64 3, .int .u64 (Oct.word s 0 : Nat), .int .u64 (Oct.word s 1 : Nat), .int .u64 (Oct.word s 2 : Nat), .int .u64 (Oct.word s 3 : Nat), .slice a n c, .int .i64 mn, .int .i64 mx] 30)) w.heap.size ⟨3, s, a, n, c, mn, mx⟩) := nb_new w ⟨3, s, a, n, c, mn, mx⟩
  have HB : Hid (Below w.heap.size w (w.alloc (.cells #[.int .i64 3, .int .u64 (Oct.word s 0 : Nat), .int .u64 (Oct.word s 1 : Nat), .int .u64 (Oct.word s 2 : Nat), .int .u64 (Oct.word s 3 : Nat), .slice a n c, .int .i64 mn, .int .i64 mx] 30))) := kk
  have HF : Hid (BAt (w.alloc (.cells #[.int .i64 3, .int .u64 (Oct.word s 0 : Nat), .int .u64 (Oct.word s 1 : Nat), .int .u64 (Oct.word s 2 : Nat), .int .u64 (Oct.word s 3 : Nat), .slice a n c, .int .i64 mn, .int .i64 mx] 30)) gf fs) := hfs.later kk
  have HGF : Hid (gf < w.heap.size) := bat_lt hfs hfl (by omega)
  obtain ⟨w1, hw1⟩ : ∃ w1, w.alloc (.cells #[.int .i64 3, .int .u64 (Oct.word s 0 : Nat), .int .u64 (Oct.word s 1 : Nat), .int .u64 (Oct.word s 2 : Nat), .int .u64 (Oct.word s 3 : Nat), .slice a n c, .int .i64 mn, .int .i64 mx] 30) = w1 := ⟨_, rfl⟩
  rw [hw1] at HNA HB HF
  obtain ⟨A, hA⟩ : ∃ A, w.heap.size = A := ⟨_, rfl⟩
  rw [hA] at HNA
  have HW1 : Hid (w.alloc (.cells #[.int .i64 3, .int .u64 (Oct.word s 0 : Nat), .int .u64 (Oct.word s 1 : Nat), .int .u64 (Oct.word s 2 : Nat), .int .u64 (Oct.word s 3 : Nat), .slice a n c, .int .i64 mn, .int .i64 mx] 30) = w1) := hw1
  have HAA : Hid (w.heap.size = A) := hA
  have HLW : Hid (Below w0.heap.size w0 w) := hlow
  have HFL : Hid (fs.length = N) := hfl
  clear hw1 hA hlow kk hfs hfl hN
  unfold Nd.val
  simp only
  go_enter Try.func35, Try.ntmps35
  go_upto_region 1 with fail
  rw [HW1.out, HAA.out]
  clear HW1
  go_upto_region 2 with (first | (refine wpList_make_bool rfl _ _ rfl w.heap.size N HB.out.size (by show _ = Value.int .i64 ((N : Nat) : Int); rw [← hNI]; rfl) (by show _ = Value.int .i64 ((N : Nat) : Int); rw [← hNI]; rfl) (by omega) ?_; intro w2 hr2 hb2; have HR2 : Hid (RowB w2 w.heap.size (.slice (some ⟨w1.heap.size, 0, none⟩) N N) (List.replicate N false)) := hr2; have HK2 : Hid (Below w1.heap.size w1 w2) := hb2; clear hr2 hb2) | fail)
  obtain ⟨G, hG⟩ : ∃ G, w1.heap.size = G := ⟨_, rfl⟩
  rw [hG] at HR2 ⊢
  have HAG : Hid (A < G ∧ gf < G) := by have h1 := HNA.out.lt; have h2 := HGF.out; have h3 := HAA.out; exact ⟨by omega, by omega⟩
  have HNA2 : Hid (NB w2 A ⟨3, s, a, n, c, mn, mx⟩) := HNA.out.later HK2.out
  have HB2 : Hid (Below w.heap.size w w2) := below_step HB.out HK2.out
  have HF2 : Hid (BAt w2 gf fs) := HF.out.later HK2.out
  clear hG HNA HB HF HK2
  obtain ⟨y0, y1, y2, y3, y4, y5, y6, y7⟩ := HNA2.out.cells
  simp only at y0 y1 y2 y3 y4 y5 y6 y7
  go_upto_region 17 with (first | (refine wpList_copy_bools rfl _ _ rfl w.heap.size G N N _ rfl HR2.out gf cf fs HFL.out rfl HF2.out ?_; intro w3 hr3 hb3; have HR3 : Hid (RowB w3 w.heap.size (.slice (some ⟨G, 0, none⟩) N N) fs) := hr3; have HK3 : Hid (Below G w2 w3) := hb3; clear hr3 hb3) | fail)
  have HB3 : Hid (Below w.heap.size w w3) := below_two HB2.out (below_low HK3.out (by have h1 := HAG.out.1; have h2 := HAA.out; omega))
  have HNA3 : Hid (NB w3 A ⟨3, s, a, n, c, mn, mx⟩) := (HK3.out.block A HAG.out.1).trans HNA2.out
  have HI0 : Hid (Img (TkS line (subs.take 0)) fs fs) := fun j => by
    constructor
    · exact fun h => ⟨j, h, by rw [List.take_zero, TkS]⟩
    · rintro ⟨i, h, ht⟩
      rw [List.take_zero, TkS] at ht
      subst ht
      exact h
  clear y0 y1 y2 y3 y4 y5 y6 y7 HR2 HNA2 HB2 HF2 HK3
  obtain ⟨y0, y1, y2, y3, y4, y5, y6, y7⟩ := HNA3.out.cells
  simp only at y0 y1 y2 y3 y4 y5 y6 y7
  go_wp2_with fail
  clear y0 y1 y2 y3 y4 y5 y6 y7 HNA3
  go_loopw [7, 85] (fun v7 i u => ∃ (k g c' : Nat) (bk : List Bool), v7 = .slice (some ⟨g, 0, none⟩) N c' ∧ i = .int .i64 (k : Nat) ∧ k ≤ n ∧ Hid (RowB u w.heap.size (.slice (some ⟨g, 0, none⟩) N c') bk) ∧ Hid (Below w.heap.size w u) ∧ Hid (Img (TkS line (subs.take k)) fs bk)) (fun _ i _ => n - (intOf i).toNat)
  case atStart => exact ⟨0, G, N, fs, rfl, rfl, Nat.zero_le _, HR3, HB3, HI0⟩
  case round =>
    clear HR3 HB3 HI0
    obtain ⟨k, g, c', bk, rfl, rfl, hk, HRk, HBk, HIk⟩ := hrel
    by_cases hlt : k < n
    · have hlt' : (k : Int) < (n : Int) := by omega
      have HLr : Hid (Below w0.heap.size w0 wr) := below_two HLW.out (below_low HBk.out HLW.out.size)
      obtain ⟨t, ht⟩ : ∃ t, subs[k]? = some t := ⟨_, List.getElem?_eq_getElem (by rw [← HSN.out]; exact hlt)⟩
      obtain ⟨v, hv⟩ : ∃ v, vs[k]? = some v := ⟨_, List.getElem?_eq_getElem (by rw [HVL.out]; exact hlt)⟩
      have hrow := (HRO.out.keep (w' := wr) (Y := fun _ => True) (fun _ _ _ => trivial) (fun b hb hlt => HLr.out.block b hlt)).nth hv
      obtain ⟨g', off, rfl, e0, e1, e2, e3, e4, e5, e6, e7⟩ := hrow
      have kk : Below wr.heap.size wr (wr.alloc (.cells #[.int .i64 v.k, .int .u64 (Oct.word v.s 0 : Nat), .int .u64 (Oct.word v.s 1 : Nat), .int .u64 (Oct.word v.s 2 : Nat), .int .u64 (Oct.word v.s 3 : Nat), .slice v.a v.n v.c, .int .i64 v.mn, .int .i64 v.mx] 30)) := (Below.refl _ _).alloc (Nat.le_refl _) _
      have HRx : Hid (RowB (wr.alloc (.cells #[.int .i64 v.k, .int .u64 (Oct.word v.s 0 : Nat), .int .u64 (Oct.word v.s 1 : Nat), .int .u64 (Oct.word v.s 2 : Nat), .int .u64 (Oct.word v.s 3 : Nat), .slice v.a v.n v.c, .int .i64 v.mn, .int .i64 v.mx] 30)) w.heap.size (.slice (some ⟨g, 0, none⟩) N c') bk) := rowB_later HRk.out kk
      have HBx : Hid (Below w.heap.size w (wr.alloc (.cells #[.int .i64 v.k, .int .u64 (Oct.word v.s 0 : Nat), .int .u64 (Oct.word v.s 1 : Nat), .int .u64 (Oct.word v.s 2 : Nat), .int .u64 (Oct.word v.s 3 : Nat), .slice v.a v.n v.c, .int .i64 v.mn, .int .i64 v.mx] 30))) := below_step HBk.out kk
      have HLx : Hid (Below w0.heap.size w0 (wr.alloc (.cells #[.int .i64 v.k, .int .u64 (Oct.word v.s 0 : Nat), .int .u64 (Oct.word v.s 1 : Nat), .int .u64 (Oct.word v.s 2 : Nat), .int .u64 (Oct.word v.s 3 : Nat), .slice v.a v.n v.c, .int .i64 v.mn, .int .i64 v.mx] 30))) := below_step HLr.out kk
      have HNV : Hid (NB (wr.alloc (.cells #[.int .i64 v.k, .int .u64 (Oct.word v.s 0 : Nat), .int .u64 (Oct.word v.s 1 : Nat), .int .u64 (Oct.word v.s 2 : Nat), .int .u64 (Oct.word v.s 3 : Nat), .slice v.a v.n v.c, .int .i64 v.mn, .int .i64 v.mx] 30)) wr.heap.size v) := nb_new wr v
      go_upto_region 20 with fail
      obtain ⟨wx, hwx⟩ : ∃ wx, wr.alloc (.cells #[.int .i64 v.k, .int .u64 (Oct.word v.s 0 : Nat), .int .u64 (Oct.word v.s 1 : Nat), .int .u64 (Oct.word v.s 2 : Nat), .int .u64 (Oct.word v.s 3 : Nat), .slice v.a v.n v.c, .int .i64 v.mn, .int .i64 v.mx] 30) = wx := ⟨_, rfl⟩
      obtain ⟨Ax, hAx⟩ : ∃ Ax, wr.heap.size = Ax := ⟨_, rfl⟩
      rw [hwx] at HRx HBx HLx HNV ⊢
      rw [hAx] at HNV ⊢
      clear hwx hAx kk HRk HBk HLr e0 e1 e2 e3 e4 e5 e6 e7
      obtain ⟨y0, y1, y2, y3, y4, y5, y6, y7⟩ := HNV.out.cells
      have hbl : bk.length = line.size + 1 := by rw [HN.out]; exact HRx.out.lt.2.1.symm
      have HC : Hid (Calls Try.prog 35 #[v.val, .string line, .slice (some ⟨g, 0, none⟩) (line.size + 1) c'] wx _) := HIH.out k t v ht hv wx g c' bk HLx.out hbl HRx.out.bat
      rw [HN.out] at HC
      have HTM : Hid (subs.take (k + 1) = subs.take k ++ [t]) := take_more ht
      clear hbl ht hv
      unfold Nd.val at HC
      go_wp2_with fail
      refine HC.out.mono ?_
      rintro e wy ⟨ky, g2, c2, b2, rfl, hr2, hi2⟩
      have HRy : Hid (RowB wy w.heap.size (.slice (some ⟨g2, 0, none⟩) N c2) b2) := rowB_low hr2 HBx.out.size
      have HBy : Hid (Below w.heap.size w wy) := below_step HBx.out ky
      have HIy : Hid (Img (TkS line (subs.take (k + 1))) fs b2) := by
        show Img _ _ _
        rw [HTM.out]
        exact (HIk.out.then hi2).congr (fun i j => (tkS_snoc line t _ i j).symm)
      clear hr2 hi2 ky HC HRx HBx HLx HNV HIk y0 y1 y2 y3 y4 y5 y6 y7
      go_wp2
      go_roundw
      case rel => exact ⟨k + 1, g2, c2, b2, rfl, by go_num, by omega, HRy, HBy, HIy⟩
      case measure => simp [intOf]; omega
    · have hlt' : ¬ (k : Int) < (n : Int) := by omega
      have HI : Hid (Img (Tk line (.mk 3 s subs mn mx)) fs bk) := by
        have h1 := HIk.out
        rw [List.take_of_length_le (by rw [← HSN.out]; omega)] at h1
        exact h1.congr (fun i j => by rw [Tk]; simp)
      go_wp2
      go_ret
      exact ⟨HBk.out, g, c', bk, rfl, HRk.out, HI.out⟩
set_option maxRecDepth 4000 in
set_option maxHeartbeats 8000000 in
theorem ends_4 {w0 : World} {line : ByteArray} (hl60 : line.size ≤ 60) {s : Oct.S} {subs : List Tn} {mn mx : Int} {a : Option Addr} {n c : Nat} {vs : List Nd} (hn : n = subs.length) (hvl : vs.length = n) (hm : n ≤ 1000000) (hr : RowAt (fun _ => True) w0 a vs) (hs : ∀ (i : Nat) (t : Tn) (v : Nd), subs[i]? = some t → vs[i]? = some v → EndsV w0 line t v) : EndsV w0 line (.mk 4 s subs mn mx) ⟨4, s, a, n, c, mn, mx⟩ := by
  have HIH : Hid (∀ (i : Nat) (t : Tn) (v : Nd), subs[i]? = some t → vs[i]? = some v → EndsV w0 line t v) := hs
  have HRO : Hid (RowAt (fun _ => True) w0 a vs) := hr
  have HSN : Hid (n = subs.length) := hn
  have HVL : Hid (vs.length = n) := hvl
  clear hs hr hn hvl
  intro w gf cf fs hlow hfl hfs
  obtain ⟨N, hN⟩ : ∃ N, line.size + 1 = N := ⟨_, rfl⟩
  rw [hN] at hfl ⊢
  have hNI : (line.size : Int) + 1 = (N : Nat) := by omega
  have hN6 : N ≤ 61 := by omega
  have HN : Hid (line.size + 1 = N) := hN
  have kk : Below w.heap.size w (w.alloc (.cells #[.int .i64 4, .int .u64 (Oct.word s 0 : Nat), .int .u64 (Oct.word s 1 : Nat), .int .u64 (Oct.word s 2 : Nat), .int .u64 (Oct.word s 3 : Nat), .slice a n c, .int .i64 mn, .int .i64 mx] 30)) := (Below.refl _ _).alloc (Nat.le_refl _) _
  have HNA : Hid (NB (w.alloc (.cells #[.int .i64 4, .int .u64 (Oct.word s 0 : Nat), .int .u64 (Oct.word s 1 : Nat), .int .u64 (Oct.word s 2 : Nat), .int .u64 (Oct.word s 3 : Nat), .slice a n c, .int .i64 mn, .int .i64 mx] 30)) w.heap.size ⟨4, s, a, n, c, mn, mx⟩) := nb_new w ⟨4, s, a, n, c, mn, mx⟩
  have HB : Hid (Below w.heap.size w (w.alloc (.cells #[.int .i64 4, .int .u64 (Oct.word s 0 : Nat), .int .u64 (Oct.word s 1 : Nat), .int .u64 (Oct.word s 2 : Nat), .int .u64 (Oct.word s 3 : Nat), .slice a n c, .int .i64 mn, .int .i64 mx] 30))) := kk
  have HF : Hid (BAt (w.alloc (.cells #[.int .i64 4, .int .u64 (Oct.word s 0 : Nat), .int .u64 (Oct.word s 1 : Nat), .int .u64 (Oct.word s 2 : Nat), .int .u64 (Oct.word s 3 : Nat), .slice a n c, .int .i64 mn, .int .i64 mx] 30)) gf fs) := hfs.later kk
  have HGF : Hid (gf < w.heap.size) := bat_lt hfs hfl (by omega)
  obtain ⟨w1, hw1⟩ : ∃ w1, w.alloc (.cells #[.int .i64 4, .int .u64 (Oct.word s 0 : Nat), .int .u64 (Oct.word s 1 : Nat), .int .u64 (Oct.word s 2 : Nat), .int .u64 (Oct.word s 3 : Nat), .slice a n c, .int .i64 mn, .int .i64 mx] 30) = w1 := ⟨_, rfl⟩
  rw [hw1] at HNA HB HF
  obtain ⟨A, hA⟩ : ∃ A, w.heap.size = A := ⟨_, rfl⟩
  rw [hA] at HNA
  have HW1 : Hid (w.alloc (.cells #[.int .i64 4, .int .u64 (Oct.word s 0 : Nat), .int .u64 (Oct.word s 1 : Nat), .int .u64 (Oct.word s 2 : Nat), .int .u64 (Oct.word s 3 : Nat), .slice a n c, .int .i64 mn, .int .i64 mx] 30) = w1) := hw1
  have HAA : Hid (w.heap.size = A) := hA
  have HLW : Hid (Below w0.heap.size w0 w) := hlow
  have HFL : Hid (fs.length = N) := hfl
  clear hw1 hA hlow kk hfs hfl hN
  unfold Nd.val
  simp only
  go_enter Try.func35, Try.ntmps35
  go_upto_region 1 with fail
  rw [HW1.out, HAA.out]
  clear HW1
  go_upto_region 2 with (first | (refine wpList_make_bool rfl _ _ rfl w.heap.size N HB.out.size (by show _ = Value.int .i64 ((N : Nat) : Int); rw [← hNI]; rfl) (by show _ = Value.int .i64 ((N : Nat) : Int); rw [← hNI]; rfl) (by omega) ?_; intro w2 hr2 hb2; have HR2 : Hid (RowB w2 w.heap.size (.slice (some ⟨w1.heap.size, 0, none⟩) N N) (List.replicate N false)) := hr2; have HK2 : Hid (Below w1.heap.size w1 w2) := hb2; clear hr2 hb2) | fail)
  obtain ⟨G, hG⟩ : ∃ G, w1.heap.size = G := ⟨_, rfl⟩
  rw [hG] at HR2 ⊢
  have HAG : Hid (A < G ∧ gf < G) := by have h1 := HNA.out.lt; have h2 := HGF.out; have h3 := HAA.out; exact ⟨by omega, by omega⟩
  have HNA2 : Hid (NB w2 A ⟨4, s, a, n, c, mn, mx⟩) := HNA.out.later HK2.out
  have HB2 : Hid (Below w.heap.size w w2) := below_step HB.out HK2.out
  have HF2 : Hid (BAt w2 gf fs) := HF.out.later HK2.out
  clear hG HNA HB HF HK2
  obtain ⟨y0, y1, y2, y3, y4, y5, y6, y7⟩ := HNA2.out.cells
  simp only at y0 y1 y2 y3 y4 y5 y6 y7
  have HI0 : Hid (Img (TkA line (subs.take 0)) fs (List.replicate N false)) := fun j => by
    constructor
    · exact fun h => absurd h (bt_rep N j)
    · rintro ⟨i, h, ht⟩
      rw [List.take_zero, TkA] at ht
      exact ht.elim
  go_wp2_with fail
  clear y0 y1 y2 y3 y4 y5 y6 y7 HNA2
  go_loopw [99] (fun i u => ∃ (k : Nat) (bk : List Bool), i = .int .i64 (k : Nat) ∧ k ≤ n ∧ Hid (RowB u w.heap.size (.slice (some ⟨G, 0, none⟩) N N) bk) ∧ Hid (Below w.heap.size w u) ∧ Hid (BAt u gf fs) ∧ Hid (Img (TkA line (subs.take k)) fs bk)) (fun i _ => n - (intOf i).toNat)
  case atStart => exact ⟨0, _, rfl, Nat.zero_le _, HR2, HB2, HF2, HI0⟩
  case round =>
    clear HR2 HB2 HF2 HI0
    obtain ⟨k, bk, rfl, hk, HRk, HBk, HFk, HIk⟩ := hrel
    by_cases hlt : k < n
    · have hlt' : (k : Int) < (n : Int) := by omega
      have HLr : Hid (Below w0.heap.size w0 wr) := below_two HLW.out (below_low HBk.out HLW.out.size)
      obtain ⟨t, ht⟩ : ∃ t, subs[k]? = some t := ⟨_, List.getElem?_eq_getElem (by rw [← HSN.out]; exact hlt)⟩
      obtain ⟨v, hv⟩ : ∃ v, vs[k]? = some v := ⟨_, List.getElem?_eq_getElem (by rw [HVL.out]; exact hlt)⟩
      have hrow := (HRO.out.keep (w' := wr) (Y := fun _ => True) (fun _ _ _ => trivial) (fun b hb hlt => HLr.out.block b hlt)).nth hv
      obtain ⟨g', off, rfl, e0, e1, e2, e3, e4, e5, e6, e7⟩ := hrow
      have kk : Below wr.heap.size wr (wr.alloc (.cells #[.int .i64 v.k, .int .u64 (Oct.word v.s 0 : Nat), .int .u64 (Oct.word v.s 1 : Nat), .int .u64 (Oct.word v.s 2 : Nat), .int .u64 (Oct.word v.s 3 : Nat), .slice v.a v.n v.c, .int .i64 v.mn, .int .i64 v.mx] 30)) := (Below.refl _ _).alloc (Nat.le_refl _) _
      have HRx : Hid (RowB (wr.alloc (.cells #[.int .i64 v.k, .int .u64 (Oct.word v.s 0 : Nat), .int .u64 (Oct.word v.s 1 : Nat), .int .u64 (Oct.word v.s 2 : Nat), .int .u64 (Oct.word v.s 3 : Nat), .slice v.a v.n v.c, .int .i64 v.mn, .int .i64 v.mx] 30)) w.heap.size (.slice (some ⟨G, 0, none⟩) N N) bk) := rowB_later HRk.out kk
      have HBx : Hid (Below w.heap.size w (wr.alloc (.cells #[.int .i64 v.k, .int .u64 (Oct.word v.s 0 : Nat), .int .u64 (Oct.word v.s 1 : Nat), .int .u64 (Oct.word v.s 2 : Nat), .int .u64 (Oct.word v.s 3 : Nat), .slice v.a v.n v.c, .int .i64 v.mn, .int .i64 v.mx] 30))) := below_step HBk.out kk
      have HLx : Hid (Below w0.heap.size w0 (wr.alloc (.cells #[.int .i64 v.k, .int .u64 (Oct.word v.s 0 : Nat), .int .u64 (Oct.word v.s 1 : Nat), .int .u64 (Oct.word v.s 2 : Nat), .int .u64 (Oct.word v.s 3 : Nat), .slice v.a v.n v.c, .int .i64 v.mn, .int .i64 v.mx] 30))) := below_step HLr.out kk
      have HNV : Hid (NB (wr.alloc (.cells #[.int .i64 v.k, .int .u64 (Oct.word v.s 0 : Nat), .int .u64 (Oct.word v.s 1 : Nat), .int .u64 (Oct.word v.s 2 : Nat), .int .u64 (Oct.word v.s 3 : Nat), .slice v.a v.n v.c, .int .i64 v.mn, .int .i64 v.mx] 30)) wr.heap.size v) := nb_new wr v
      have HFx : Hid (BAt (wr.alloc (.cells #[.int .i64 v.k, .int .u64 (Oct.word v.s 0 : Nat), .int .u64 (Oct.word v.s 1 : Nat), .int .u64 (Oct.word v.s 2 : Nat), .int .u64 (Oct.word v.s 3 : Nat), .slice v.a v.n v.c, .int .i64 v.mn, .int .i64 v.mx] 30)) gf fs) := HFk.out.later kk
      go_upto_region 26 with fail
      obtain ⟨wx, hwx⟩ : ∃ wx, wr.alloc (.cells #[.int .i64 v.k, .int .u64 (Oct.word v.s 0 : Nat), .int .u64 (Oct.word v.s 1 : Nat), .int .u64 (Oct.word v.s 2 : Nat), .int .u64 (Oct.word v.s 3 : Nat), .slice v.a v.n v.c, .int .i64 v.mn, .int .i64 v.mx] 30) = wx := ⟨_, rfl⟩
      obtain ⟨Ax, hAx⟩ : ∃ Ax, wr.heap.size = Ax := ⟨_, rfl⟩
      rw [hwx] at HRx HBx HLx HNV HFx ⊢
      rw [hAx] at HNV ⊢
      clear hwx hAx kk HRk HBk HLr HFk e0 e1 e2 e3 e4 e5 e6 e7
      obtain ⟨y0, y1, y2, y3, y4, y5, y6, y7⟩ := HNV.out.cells
      have hbl : fs.length = line.size + 1 := by rw [HN.out]; exact HFL.out
      have HC : Hid (Calls Try.prog 35 #[v.val, .string line, .slice (some ⟨gf, 0, none⟩) (line.size + 1) cf] wx _) := HIH.out k t v ht hv wx gf cf fs HLx.out hbl HFx.out
      rw [HN.out] at HC
      have HTM : Hid (subs.take (k + 1) = subs.take k ++ [t]) := take_more ht
      clear hbl ht hv
      unfold Nd.val at HC
      go_wp2_with fail
      refine HC.out.mono ?_
      rintro e wy ⟨ky, g2, c2, b2, rfl, hr2, hi2⟩
      have HRy : Hid (RowB wy w.heap.size (.slice (some ⟨G, 0, none⟩) N N) bk) := rowB_later HRx.out ky
      have HBy : Hid (Below w.heap.size w wy) := below_step HBx.out ky
      have HFy : Hid (BAt wy gf fs) := HFx.out.later ky
      have HI2 : Hid (Img (Tk line t) fs b2) := hi2
      have HNE : Hid (g2 ≠ G) := by have h1 := hr2.lt.2.2; have h2 := HRx.out.lt.1; show _ ≠ _; omega
      have HC2 : Hid (Calls Try.prog 57 #[.slice (some ⟨G, 0, none⟩) N N, .slice (some ⟨g2, 0, none⟩) N c2] wy _) := add_any wy HRy.out hr2.bat hr2.lt.2.1.symm HNE.out (by omega)
      clear hr2 hi2 ky HC HRx HBx HLx HNV HFx y0 y1 y2 y3 y4 y5 y6 y7
      go_wp2_with fail
      refine HC2.out.mono ?_
      rintro e wz ⟨ok, b3, rfl, hr3, hg3, hi3, _, _⟩
      have HRz : Hid (RowB wz w.heap.size (.slice (some ⟨G, 0, none⟩) N N) b3) := hr3
      have HGW : Hid (w.heap.size ≤ G) := by have h1 := HAG.out.1; have h2 := HAA.out; show _ ≤ _; omega
      have HBz : Hid (Below w.heap.size w wz) := HBy.out.grown hg3 HBy.out.size (fun k hk => by cases hk; exact HGW.out)
      have HFz : Hid (BAt wz gf fs) := HFy.out.same (hg3.block gf (bat_lt HFy.out HFL.out (by have := HN.out; omega)) (fun e => by cases e; have := HAG.out.2; omega))
      have HIz : Hid (Img (TkA line (subs.take (k + 1))) fs b3) := fun j => by
        rw [hi3 j, HIk.out j, HI2.out j, HTM.out]
        constructor
        · rintro (⟨i, h1, h2⟩ | ⟨i, h1, h2⟩)
          · exact ⟨i, h1, (tkA_snoc line t _ i j).2 (Or.inl h2)⟩
          · exact ⟨i, h1, (tkA_snoc line t _ i j).2 (Or.inr h2)⟩
        · rintro ⟨i, h1, h2⟩
          rcases (tkA_snoc line t _ i j).1 h2 with h2 | h2
          · exact Or.inl ⟨i, h1, h2⟩
          · exact Or.inr ⟨i, h1, h2⟩
      clear hr3 hg3 hi3 HC2 HRy HBy HFy HI2 HIk
      go_wp2
      go_roundw
      case rel => exact ⟨k + 1, b3, by go_num, by omega, HRz, HBz, HFz, HIz⟩
      case measure => simp [intOf]; omega
    · have hlt' : ¬ (k : Int) < (n : Int) := by omega
      have HI : Hid (Img (Tk line (.mk 4 s subs mn mx)) fs bk) := by
        have h1 := HIk.out
        rw [List.take_of_length_le (by rw [← HSN.out]; omega)] at h1
        exact h1.congr (fun i j => by rw [Tk]; simp)
      go_wp2
      go_ret
      exact ⟨HBk.out, G, N, bk, rfl, HRk.out, HI.out⟩
end Go.Proofs.Ytjmbimgofceanaa
