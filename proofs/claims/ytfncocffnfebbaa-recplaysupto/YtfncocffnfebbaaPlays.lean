/- The walk of heronlaw02.RecPlays: every answer of every row of calls is the document's; each list that was answered is a memory of its own. -/
import Derived.Test.YtfncocffnfebbaaSteps
import Derived.Test.YtfncocffnfebbaaBack
namespace Go.Proofs.Ytfncocffnfebbaa
open Go.RowKit
attribute [local go_sem ↓] Go.wp_at_zero Go.wp_at_succ

theorem read_row (a : Option Addr) (n cap : Nat) (zs : List Int) (w : World) (hn : n = zs.length) (hb : BytesAt w a zs) (hl : n ≤ 16777216) :
    Calls Try.prog 12 #[.slice a n cap] w fun e w' => ∃ P H, e = .returned (.pointer (some ⟨P, 0, none⟩)) ∧ w.heap.size ≤ P ∧ w.heap.size ≤ H ∧ Rd w' P H 0 zs ∧ Below w.heap.size w w' ∧ ∃ cur, w'.heap[H]? = some (.cells cur 5 (0, 0)) ∧ zs.length ≤ cur.size := by
  have HN : Hid (n = zs.length) := hn
  have HB : Hid (BytesAt w a zs) := hb
  clear hn hb
  go_enter Try.func12, Try.ntmps12
  go_wp2_with (first
    | (at_make; refine wpList_make_zeros rfl _ _ rfl n _ _ rfl rfl rfl rfl (by omega) ?_; intro w1 ho1 hb1; have HO1 : Hid (Owns w1 w.heap.size (.slice (some ⟨w.heap.size, 0, none⟩) n n) (List.replicate n 0)) := ho1; have HB1 : Hid (Below w.heap.size w w1) := hb1; clear ho1 hb1)
    | (refine wpList_copy_bytes rfl _ _ rfl w.heap.size _ (List.replicate n 0) rfl HO1.out a cap n zs HN.out rfl (bytesAt_later HB1.out HB.out) (by rw [List.length_replicate, HN.out]; exact Nat.le_refl _) ?_; intro w2 ho2 hb2; have HO2 : Hid (Owns w2 w.heap.size (.slice (some ⟨w.heap.size, 0, none⟩) n n) zs) := (by rw [List.length_replicate, HN.out, List.take_length] at ho2; rw [HN.out]; exact ho2); have HB2 : Hid (Below w.heap.size w w2) := HB1.out.trans hb2; clear ho2 hb2))
  obtain ⟨hrd, hH, hBH⟩ := rd_new w2 w.heap.size w.heap.size n zs HN.out HO2.out
  have hz := HB2.out.size
  have hrow : ∃ cur, (w2.alloc (.cells #[.slice (some ⟨w.heap.size, 0, none⟩) n n] 68)).heap[w.heap.size]? = some (.cells cur 5 (0, 0)) ∧ zs.length ≤ cur.size := by
    rcases HO2.out.1.2 with ⟨e, _⟩ | ⟨g, cp, cur, e, _, hg, hle, _, hs, _⟩
    · cases e
    · cases e
      exact ⟨cur, by rw [Below.heap_alloc w2 _ _ hH]; exact hg, by omega⟩
  exact bodyPost_ret (v := .pointer (some ⟨w2.heap.size, 0, none⟩)) (by simp [results, Try.results12, go_sem]) rfl ⟨w2.heap.size, w.heap.size, rfl, hz, hBH, hrd, HB2.out.alloc hz _, hrow⟩

theorem str_mn (zb : List Int) : strOfNums (zb ++ [77, 78]) = strOfNums zb ++ ⟨#[77, 78]⟩ := by
  have e : (strOfNums (zb ++ [77, 78])).data = (strOfNums zb ++ (⟨#[77, 78]⟩ : ByteArray)).data := by
    simp [strOfNums]
  exact ByteArray.ext e

/-- what never turns -/
structure Fixd (w : World) (P H X K F : Nat) (xa : Option Addr) : Prop where
  bP : w.heap.size ≤ P
  bH : w.heap.size ≤ H
  bX : w.heap.size ≤ X
  bK : w.heap.size ≤ K
  bF : w.heap.size ≤ F
  hf : H ≠ F
  xg : ∀ g, xa = some ⟨g, 0, none⟩ → w.heap.size ≤ g ∧ g ≠ F ∧ g ≠ H

theorem sta_start {w w1 w3 w4 w5 : World} {P H F n c L : Nat} {xa : Option Addr} {xc : Nat} {zb : List Int} (hn : n = zb.length) (hbs : Rec.Bs zb) (hz1 : w.heap.size ≤ w1.heap.size) (hF : w1.heap.size ≤ F ∧ F < w3.heap.size) (hP : w3.heap.size ≤ P) (hH : w3.heap.size ≤ H) (hbw3 : Below w.heap.size w w3) (hb4 : Below w3.heap.size w3 w4) (hL : L = w4.heap.size) (hb5 : Below w4.heap.size w4 w5)
    (hr : Rd w4 P H 0 zb) (hrow : ∃ cur, w4.heap[H]? = some (.cells cur 5 (0, 0)) ∧ zb.length ≤ cur.size) (hx : Rx w5 L xa xc 0 zb) (hxg : ∀ g, xa = some ⟨g, 0, none⟩ → L + 1 ≤ g ∧ ∃ cur, w5.heap[g]? = some (.cells cur 5 (0, 0)))
    (hfull : w5.ownsRow w.heap.size 5 1 (.slice (some ⟨F, 0, none⟩) (n + 2) c) (n + 2) (cellsOf (zb ++ [77, 78]))) (hbw5 : Below w.heap.size w w5) :
    Sta w P H L w5.heap.size F n c xa xc zb (w5.alloc (.cells #[.slice none 0 0, .slice none 0 0] 49)) 0 [] ∧ Fixd w P H L w5.heap.size F xa := by
  have hal : Below w5.heap.size w5 (w5.alloc (.cells #[.slice none 0 0, .slice none 0 0] 49)) := (Below.refl _ _).alloc (Nat.le_refl _) _
  obtain ⟨cur, hc, hl⟩ := hrow
  have hHl : H < w4.heap.size := (Array.getElem?_eq_some_iff.1 hc).1
  have s34 := hb4.size
  have s3 := hbw3.size
  have s45 := hb5.size
  refine ⟨⟨?_, hx.grow hal, ⟨zb, hn.symm, hbs, hfull.alloc _⟩, ⟨none, 0, none, 0, heap_alloc_new _ _, World.ownsRow_nil _ _ _ _, World.ownsRow_nil _ _ _ _⟩, fun A hA => (by cases hA), fun x hx' => (by cases hx'), fun A hA => (by cases hA), fun x hx' => (by cases hx'), List.Pairwise.nil, below_trans hbw5 hal hbw5.size, ⟨cur, ?_, hl⟩, fun g e => ?_, Nat.zero_le _⟩, ⟨by omega, by omega, by omega, by omega, by omega, by omega, fun g e => ?_⟩⟩
  · rw [List.drop_zero]; exact (hr.grow hb5).grow hal
  · rw [hal.block H (by omega), hb5.block H hHl]; exact hc
  · obtain ⟨_, cu, hcu⟩ := hxg g e
    exact ⟨cu, by rw [hal.block g (Array.getElem?_eq_some_iff.1 hcu).1]; exact hcu⟩
  · have h1 := (hxg g e).1
    exact ⟨by omega, by omega, by omega⟩
theorem sta_F {w : World} {P H X K F n c : Nat} {xa : Option Addr} {xc : Nat} {zb : List Int} {u : World} {off : Nat} {ans : List (Ans × List Int)} (h : Sta w P H X K F n c xa xc zb u off ans) (hx : Fixd w P H X K F xa) (j : Nat) (hj : j < n) :
    ∃ z : Nat, z < 256 ∧ u.cell? ⟨F, j, none⟩ = some (.int .u8 (z : Int)) ∧ u.frozen? ⟨F, j, none⟩ = false ∧ ∀ y : Int, 0 ≤ y → y < 256 → Sta w P H X K F n c xa xc zb (u.setCell ⟨F, j, none⟩ (.int .u8 y)) off ans := by
  obtain ⟨zf, f1, f2, f3⟩ := h.full
  have hj2 : j < zf.length := by omega
  have hbj := Rec.bs_at f2 hj2
  have hcell : u.cell? ⟨F, j, none⟩ = some (.int .u8 (zf.getD j 0)) := by
    rw [f3.cellAt j (by omega)]
    simp [cellsOf, hj2, List.getElem?_append_left]
  refine ⟨(zf.getD j 0).toNat, by omega, by rw [hcell]; congr 2; omega, f3.frozenAt j, fun y hy0 hy1 => ?_⟩
  obtain ⟨g1, g2⟩ := f3.stored j (.int .u8 y)
  have hs : Sames (fun t b => t ≠ 5 ∨ b ≠ F) u (u.setCell ⟨F, j, none⟩ (.int .u8 y)) := fun b cur t fr ht hb => by
    have hF : ∃ cf, u.heap[F]? = some (.cells cf 5 (0, 0)) := by
      rcases f3.2 with ⟨e, _⟩ | ⟨g, cap, cu, hv, _, hg, _⟩
      · cases e
      · cases hv; exact ⟨cu, hg⟩
    obtain ⟨cf, hcf⟩ := hF
    have hne : b ≠ F := by
      rcases ht with ht | ht
      · intro e
        subst e
        rw [hcf] at hb
        simp only [Option.some.injEq, Obj.cells.injEq] at hb
        exact ht hb.2.1.symm
      · exact ht
    rw [Below.heap_setCell u ⟨F, j, none⟩ _ b hne]
    exact hb
  obtain ⟨cur, hc, hl⟩ := h.hrow
  refine ⟨rd_same h.rd hs h.hrow (Or.inl (by decide)) (Or.inr hx.hf), rx_same h.rx hs h.xrow (Or.inl (by decide)) (fun g e => Or.inr (hx.xg g e).2.1), ⟨zf.set j y, by simpa using f1, ?_, ?_⟩, book_same h.book hs (Or.inl (by decide)) (fun _ => Or.inl (by decide)) (fun _ => Or.inl (by decide)), fun A hA => lies_same (h.lies A hA) hs (fun h0 => Or.inr (h.place A hA h0).2.1), fun x hx' => ?_, h.place, h.sz, h.apart, h.below.setCell (p := ⟨F, j, none⟩) hx.bF _, ⟨cur, hs _ _ _ _ (Or.inr hx.hf) hc, hl⟩, fun g e => ?_, h.le⟩
  · intro z hz
    rcases List.mem_or_eq_of_mem_set hz with hz | rfl
    · exact f2 z hz
    · exact ⟨hy0, hy1⟩
  · have e : cellsOf (zf.set j y ++ [77, 78]) = (cellsOf (zf ++ [77, 78])).set j (.int .u8 y) := by
      simp only [cellsOf, ← List.map_set]
      rw [List.set_append_left _ _ hj2]
    rw [e]; exact g1
  · have hm := List.mem_map_of_mem (f := (·.1)) hx'
    exact has_same (h.lies _ hm) (h.has x hx') hs (fun h0 => Or.inr (h.place _ hm h0).2.1)
  · obtain ⟨cu, hcu⟩ := h.xrow g e
    exact ⟨cu, hs _ _ _ _ (Or.inr (hx.xg g e).2.1) hcu⟩
theorem row_ans {u : World} {B g m : Nat} {zs : List Int} (h : u.ownsRow B 5 1 (.slice (some ⟨g, 0, none⟩) m m) m (cellsOf zs)) (hm : m = zs.length) : Ans.Lies u ⟨some ⟨g, 0, none⟩, g, 0, m⟩ ∧ (m = zs.length ∧ BytesAt u (some ⟨g, 0, none⟩) zs) ∧ g < u.heap.size := by
  have ho : Owns u B (.slice (some ⟨g, 0, none⟩) m m) zs := ⟨by rw [← hm]; exact h, by simp⟩
  rcases h.2 with ⟨e, _⟩ | ⟨g', cp, cur, e, _, hg, hle, _, hs, _⟩
  · cases e
  · cases e
    exact ⟨Or.inr ⟨rfl, cur, hg, by simp; omega⟩, ⟨hm, ho.bytes.1⟩, (Array.getElem?_eq_some_iff.1 hg).1⟩
theorem Sta.notK50 {w : World} {P H X K F n c : Nat} {xa : Option Addr} {xc : Nat} {zb : List Int} {u : World} {off : Nat} {ans : List (Ans × List Int)} (h : Sta w P H X K F n c xa xc zb u off ans) {b : Nat} {cur : Array Value} {fr : Nat × Nat} (hb : u.heap[b]? = some (.cells cur 50 fr)) : b ≠ K := fun e => by
  obtain ⟨ra, rc, sa, sc, hK, _, _⟩ := h.book
  subst e
  rw [hK] at hb
  simp at hb
/-- the call's own copy of one call of the script -/
def OB (w : World) (A : Nat) (k n : Int) (x : Nat) (s : ByteArray) : Prop := w.heap[A]? = some (.cells #[.int .i64 k, .int .i64 n, .int .u64 x, .string s] 50 (0, 0))
theorem OB.cells {w : World} {A : Nat} {k n : Int} {x : Nat} {s : ByteArray} (h : OB w A k n x s) : w.cell? ⟨A, 0, none⟩ = some (.int .i64 k) ∧ w.cell? ⟨A, 1, none⟩ = some (.int .i64 n) ∧ w.cell? ⟨A, 2, none⟩ = some (.int .u64 x) ∧ w.cell? ⟨A, 3, none⟩ = some (.string s) := by
  unfold OB at h
  refine ⟨?_, ?_, ?_, ?_⟩ <;> simp [World.cell?, h]
theorem OB.same {T : TypeId → Nat → Prop} {u u' : World} {A : Nat} {k n : Int} {x : Nat} {s : ByteArray} (h : OB u A k n x s) (hs : Sames T u u') (hT : T 50 A) : OB u' A k n x s := hs _ _ _ _ hT h
theorem OB.later {u u' : World} {A : Nat} {k n : Int} {x : Nat} {s : ByteArray} (h : OB u A k n x s) (hb : Below u.heap.size u u') : OB u' A k n x s := h.same (T := fun _ _ => True) (sames_below hb) trivial

set_option maxHeartbeats 100000000 in
set_option maxRecDepth 16000 in
theorem plays_any (ab : Option Addr) (n cb : Nat) (zb : List Int) (sa : Option Addr) (ns cs : Nat) (its : List It) (w : World) (hn : n = zb.length) (hnl : n ≤ 1048576) (_hcb : n ≤ cb) (hb : BytesAt w ab zb) (hbs : Rec.Bs zb) (hsl : its.length = ns) (hat : ItemsAt w sa its) (hok : ∀ i ∈ its, i.Ok) (_hns : ns ≤ 1048576) :
    Calls Try.prog 5 #[.slice ab n cb, .slice sa ns cs] w fun e w' => e = .returned (.bool true) ∧ Below w.heap.size w w' := by
  have HN : Hid (n = zb.length) := hn
  have HB : Hid (BytesAt w ab zb) := hb
  have HBS : Hid (Rec.Bs zb) := hbs
  have HSL : Hid (its.length = ns) := hsl
  have HAT : Hid (ItemsAt w sa its) := hat
  have HOK : Hid (∀ i ∈ its, i.Ok) := hok
  clear hn hb hbs hsl hat hok
  go_enter Try.func5, Try.ntmps5
  go_wp2_with fail
  refine (fixed_any _).mono ?_
  rintro e w1 ⟨rfl, hb1⟩
  have HB1 : Hid (Below w.heap.size w w1) := hb1
  have HZ1 : Hid (w.heap.size ≤ w1.heap.size) := hb1.size
  clear hb1
  go_wp2_with (first
    | (at_builtin; refine wpList_append_fresh rfl (.tmp 35) (.tmp 36) rfl rfl ab cb n zb rfl HN.out (bytesAt_later HB1.out HB.out) (by omega) ?_; intro g2 c2 w2 ho2 hb2 hc2; have HO2 : Hid (Owns w2 w1.heap.size (.slice (some ⟨g2, 0, none⟩) n c2) zb) := ho2; have HB2 : Hid (Below w1.heap.size w1 w2) := hb2; clear ho2 hb2 hc2)
    | (at_builtin; go_must (refine wpList_append_bytes rfl (.tmp 37) (.tmp 38) rfl w1.heap.size _ zb rfl (HO2.out.later ((Below.refl _ _).alloc (Nat.le_refl _) _)) _ 2 2 [77, 78] rfl rfl (bytesAt_new w2 [77, 78] 5 (0, 0)) (by rw [← HN.out]; simp; omega) (by have := HB2.out.size; simp; omega) ?_; intro v3 w3 ho3 hg3; obtain ⟨F, c, e3, hF1, hF2, hy3, hc3, hm3, _⟩ := ho3.form; have hz3 : (zb ++ [77, 78]).length = n + 2 := (by rw [List.length_append, ← HN.out]; rfl); rw [hz3] at e3 hc3; have HO3 : Hid (w3.ownsRow w1.heap.size 5 1 (.slice (some ⟨F, 0, none⟩) (n + 2) c) (n + 2) (cellsOf (zb ++ [77, 78]))) := (by have h := ho3.1; rw [e3, hz3] at h; exact h); have HB3 : Hid (Below w1.heap.size w1 w3) := (HB2.out.alloc HB2.out.size _).grown hg3 (by have := HB2.out.size; simp; omega) (fun q hq => by cases hq; exact (HO2.out.bytes).2.2.1); have HY3 : Hid (BytesAt w3 (some ⟨F, 0, none⟩) (zb ++ [77, 78])) := hy3; subst e3; unfold maxLen at hm3; clear ho3 hg3 hy3)))
  have HY3b : Hid (BytesAt w3 (some ⟨F, 0, none⟩) zb) := by
    have h := bytesAt_take n HY3.out
    rw [HN.out, List.take_left] at h
    exact h
  refine (read_row _ n c zb _ HN.out HY3b.out (by omega)).mono ?_
  rintro e w4 ⟨P, H, rfl, hP, hH, hr4, hb4, hrow4⟩
  have HR4 : Hid (Rd w4 P H 0 zb) := hr4
  have HB4 : Hid (Below w3.heap.size w3 w4) := hb4
  have HROW4 : Hid (∃ cur, w4.heap[H]? = some (.cells cur 5 (0, 0)) ∧ zb.length ≤ cur.size) := hrow4
  have HBW3 : Hid (Below w.heap.size w w3) := below_trans HB1.out HB3.out HZ1.out
  have HBW4 : Hid (Below w.heap.size w w4) := below_trans HBW3.out HB4.out HBW3.out.size
  have HP : Hid (w3.heap.size ≤ P) := hP
  have HH : Hid (w3.heap.size ≤ H) := hH
  clear hr4 hb4 hrow4 hP hH
  go_wp2_with fail
  refine (xread_any ab n cb zb _ HN.out (bytesAt_later HBW4.out HB.out) (by omega)).mono ?_
  rintro e w5 ⟨xa, xc, rfl, hx5, hb5, hxg⟩
  have HX5 : Hid (Rx w5 w4.heap.size xa xc 0 zb) := hx5
  have HB5 : Hid (Below w4.heap.size w4 w5) := hb5
  have HXG : Hid (∀ g, xa = some ⟨g, 0, none⟩ → w4.heap.size + 1 ≤ g ∧ ∃ cur, w5.heap[g]? = some (.cells cur 5 (0, 0))) := hxg
  have HBW5 : Hid (Below w.heap.size w w5) := below_trans HBW4.out HB5.out HBW4.out.size
  have hb35 : Below w3.heap.size w3 w5 := below_trans HB4.out HB5.out HB4.out.size
  have hcF : (convert 26 9 (.slice (some ⟨F, 0, none⟩) (n + 2) c)).run Try.prog w5 = .ok (.string (strOfNums (zb ++ [77, 78]))) w5 := conv_string w5 _ (n + 2) c _ (by rw [List.length_append, ← HN.out]; rfl) (bytesAt_later hb35 HY3.out)
  have hcb2 : (convert 26 9 (.slice ab n cb)).run Try.prog w5 = .ok (.string (strOfNums zb)) w5 := conv_string w5 ab n cb zb HN.out (bytesAt_later HBW5.out HB.out)
  rw [str_mn] at hcF
  have hSz : (strOfNums zb).size = n := by rw [strOfNums_size, HN.out]
  obtain ⟨S, hS⟩ : ∃ S, S = strOfNums zb := ⟨_, rfl⟩
  rw [← hS] at hcF hcb2 hSz
  obtain ⟨L, hL⟩ : ∃ L, L = w4.heap.size := ⟨_, rfl⟩
  have HLX : Hid (L = w4.heap.size) := hL
  rw [← hL] at HX5 HXG ⊢
  have HF2 : Hid (w1.heap.size ≤ F ∧ F < w3.heap.size) := ⟨hF1, hF2⟩
  have HO5 : Hid (w5.ownsRow w.heap.size 5 1 (.slice (some ⟨F, 0, none⟩) (n + 2) c) (n + 2) (cellsOf (zb ++ [77, 78]))) := by
    have h := ownsRow_later HO3.out hb35
    refine ⟨h.1, ?_⟩
    rcases h.2 with h2 | ⟨g, cap, cur, hv, hBg, rest⟩
    · exact Or.inl h2
    · exact Or.inr ⟨g, cap, cur, hv, Nat.le_trans HZ1.out hBg, rest⟩
  clear hS hL hx5 hb5 hxg hb35 hF1 hF2 HO3 HY3 HY3b HO2
  go_wp2_with fail
  obtain ⟨hst6, hfx⟩ := sta_start HN.out HBS.out HZ1.out HF2.out HP.out HH.out HBW3.out HB4.out HLX.out HB5.out HR4.out HROW4.out HX5.out HXG.out HO5.out HBW5.out
  obtain ⟨w6, hw6⟩ : ∃ w6, w6 = w5.alloc (.cells #[.slice none 0 0, .slice none 0 0] 49) := ⟨_, rfl⟩
  obtain ⟨K, hK⟩ : ∃ K, K = w5.heap.size := ⟨_, rfl⟩
  rw [← hw6] at hst6 ⊢
  rw [← hK] at hst6 hfx ⊢
  have HST6 : Hid (Sta w P H L K F n c xa xc zb w6 0 []) := hst6
  have HFX : Hid (Fixd w P H L K F xa) := hfx
  clear hst6 hfx hw6 hK HX5 HB5 HXG HBW5 hcF hcb2 hSz HO5 HF2 HR4 HB4 HROW4 HBW3 HBW4 HP HH HLX HB3 HB2 HB1 HZ1
  go_loopw [10] (fun i v => ∃ (k off : Nat) (ans : List (Ans × List Int)), k ≤ ns ∧ k ≤ 200 ∧ i = .int .i64 k ∧ ans.length ≤ 2 * k ∧ Hid (Sta w P H L K F n c xa xc zb v off ans)) (fun i _ => ns - (intOf i).toNat)
  case atStart => exact ⟨0, 0, [], Nat.zero_le _, by omega, rfl, by simp, HST6⟩
  case round =>
    clear HST6
    obtain ⟨k, off, ans, hk, hk2, rfl, hal, hst⟩ := hrel
    by_cases hlt : k < ns ∧ k < 200
    · obtain ⟨hlt, hl2⟩ := hlt
      obtain ⟨it, hit⟩ : ∃ it, its[k]? = some it := ⟨its[k]'(by rw [HSL.out]; exact hlt), List.getElem?_eq_getElem _⟩
      obtain ⟨bb, of, rfl, c0, c1, c2, c3⟩ := itemsAt_cells HAT.out hst.out.below hit
      have HIO : Hid (it.Ok) := HOK.out it (List.mem_of_getElem? hit)
      clear hit
      obtain ⟨ok, on, ox, os⟩ := it
      simp only at c0 c1 c2 c3
      have hb7 : Below wr.heap.size wr (wr.alloc (.cells #[.int .i64 ok, .int .i64 on, .int .u64 ox, .string os] 50)) := (Below.refl _ _).alloc (Nat.le_refl _) _
      have HST7 : Hid (Sta w P H L K F n c xa xc zb (wr.alloc (.cells #[.int .i64 ok, .int .i64 on, .int .u64 ox, .string os] 50)) off ans) := hst.out.grow hb7
      have HOB7 : Hid (OB (wr.alloc (.cells #[.int .i64 ok, .int .i64 on, .int .u64 ox, .string os] 50)) wr.heap.size ok on ox os) := heap_alloc_new wr _
      clear hb7
      have HO : Hid (ox < 18446744073709551616 ∧ os.size ≤ 1048576) := HIO.out
      have HD : Hid (zb.length ≤ 16777216) := by show _ ≤ _; rw [← HN.out]; omega
      clear HIO
      by_cases h0 : ok = 0
      · subst h0
        as_aux_lemma =>
          by_cases hno : on < 1 ∨ 8 < on ∨ ∃ m : Nat, on = m ∧ m < 8 ∧ 256 ^ m ≤ ox
          · have HNO : Hid (on < 1 ∨ 8 < on ∨ ∃ m : Nat, on = m ∧ m < 8 ∧ 256 ^ m ≤ ox) := hno
            have HNO2 : Hid (on < 1 ∨ 8 < on ∨ ∃ m : Nat, on = m ∧ 256 ^ m ≤ ox) := by
              rcases hno with h | h | ⟨m, h1, _, h2⟩
              · exact Or.inl h
              · exact Or.inr (Or.inl h)
              · exact Or.inr (Or.inr ⟨m, h1, h2⟩)
            clear hno
            go_wp2_with fail
            refine (rNum_no ox on _ HNO.out).mono ?_
            rintro e v1 ⟨rfl, hv1⟩
            subst hv1
            go_wp2_with fail
            refine (num_no ox on _ HNO2.out).mono ?_
            rintro e v2 ⟨rfl, hv2⟩
            subst hv2
            go_wp2_with fail
            refine (num_no ox on _ HNO2.out).mono ?_
            rintro e v3 ⟨rfl, hv3⟩
            subst hv3
            go_wp2_with fail
            refine (sta_take HST7.out HFX.out.bK (by omega) ⟨none, 0, 0, 0⟩ [] none 0 0 (Or.inl rfl) ⟨rfl, Or.inl rfl⟩ (by decide) (fun h => absurd rfl h) (fun A _ => Or.inr (Or.inl rfl)) (Or.inl rfl) rfl).mono ?_
            rintro e v4 ⟨rfl, hs4, _⟩
            have HST8 : Hid (Sta w P H L K F n c xa xc zb v4 off (ans ++ [((⟨none, 0, 0, 0⟩ : Ans), ([] : List Int))])) := hs4
            clear hs4 HST7 HOB7 hst
            go_wp2_with fail
            refine (sta_take HST8.out HFX.out.bK (by simp; omega) ⟨none, 0, 0, 0⟩ [] none 0 0 (Or.inl rfl) ⟨rfl, Or.inl rfl⟩ (by decide) (fun h => absurd rfl h) (fun A _ => Or.inr (Or.inl rfl)) (Or.inl rfl) rfl).mono ?_
            rintro e v5 ⟨rfl, hs5, _⟩
            have HSTZ : Hid (Sta w P H L K F n c xa xc zb v5 off (ans ++ [((⟨none, 0, 0, 0⟩ : Ans), ([] : List Int))] ++ [((⟨none, 0, 0, 0⟩ : Ans), ([] : List Int))])) := hs5
            clear hs5 HST8
            have HD1 : Hid (zb.length ≤ 16777216) := by show _ ≤ _; rw [← HN.out]; omega
            go_wp2_with fail
            refine (sta_left HSTZ.out).mono ?_
            rintro e v1 ⟨rfl, rfl⟩
            go_wp2_with fail
            refine (sta_xleft HSTZ.out HD1.out).mono ?_
            rintro e v2 ⟨rfl, hstY, hblY⟩
            have HSTY : Hid (Sta w P H L K F n c xa xc zb v2 off (ans ++ [((⟨none, 0, 0, 0⟩ : Ans), ([] : List Int))] ++ [((⟨none, 0, 0, 0⟩ : Ans), ([] : List Int))])) := hstY
            clear hstY hblY HSTZ
            go_wp2_with fail
            go_roundw
            case rel => exact ⟨k + 1, off, (ans ++ [((⟨none, 0, 0, 0⟩ : Ans), ([] : List Int))] ++ [((⟨none, 0, 0, 0⟩ : Ans), ([] : List Int))]), by omega, by omega, by go_num, by first | omega | (simp; omega), HSTY⟩
            case measure => simp [intOf]; omega

          · have hon : 1 ≤ on ∧ on ≤ 8 := by omega
            obtain ⟨m, rfl⟩ : ∃ m : Nat, on = m := ⟨on.toNat, by omega⟩
            have h1 : 1 ≤ m := by omega
            have h8 : m ≤ 8 := by omega
            have HV : Hid (ox < 256 ^ m) := by
              show _ < _
              by_cases e : m = 8
              · rw [e, Rec.pow8]; exact HO.out.1
              · apply Nat.lt_of_not_le
                intro hle
                exact hno (Or.inr (Or.inr ⟨m, rfl, by omega, hle⟩))
            clear hno hon
            have hne : Rec.num ox m ≠ [] := fun e => by have := congrArg List.length e; rw [Rec.num_length] at this; simp at this; omega
            have HNE : Hid (Rec.num ox m ≠ []) := hne
            clear hne
            go_wp2_with fail
            refine (rNum_yes ox m _ HO.out.1 h1 h8 HV.out).mono ?_
            rintro e v1 ⟨v, rfl, ho1, hb1⟩
            have ho2 := ho1.owns HNE.out
            obtain ⟨gw, cw, rfl, _, _, hyw, _⟩ := ho2.form
            obtain ⟨cu, hcu⟩ := owns_block ho2
            rw [Rec.num_length]
            have HW1 : Hid (Held v1 (some ⟨gw, 0, none⟩) (Rec.num ox m)) := Or.inr ⟨gw, 0, cu, rfl, hcu, hyw⟩
            have HST8 : Hid (Sta w P H L K F n c xa xc zb v1 off ans) := HST7.out.grow hb1
            have HOB8 : Hid (OB v1 wr.heap.size 0 m ox os) := HOB7.out.later hb1
            obtain ⟨_, d1, d2, _⟩ := HOB8.out.cells
            clear ho1 ho2 hyw hcu hb1 HST7 HOB7 hst
            go_wp2_with fail
            refine (num_fit ox m _ HO.out.1 h1 h8 HV.out).mono ?_
            rintro e v2 ⟨rfl, hr2, hb2⟩
            obtain ⟨ga, hga⟩ : ∃ ga, ga = v1.heap.size := ⟨_, rfl⟩
            obtain ⟨hp1, hap1⟩ := HST8.out.fresh v1.heap.size m (Nat.le_refl _)
            rw [← hga] at hr2 hp1 hap1 ⊢
            have HGA : Hid (ga < v2.heap.size) := (row_ans hr2 (Rec.num_length ox m).symm).2.2
            have HRA : Hid (v2.ownsRow ga 5 1 (.slice (some ⟨ga, 0, none⟩) m m) m (cellsOf (Rec.num ox m))) := hr2
            have HPA : Hid (w.heap.size ≤ ga ∧ ga ≠ F ∧ (∀ g', xa = some ⟨g', 0, none⟩ → ga ≠ g') ∧ (ga = H → 0 + m ≤ off)) := hp1
            have HAPA : Hid (∀ A ∈ ans.map (·.1), Ans.Apart A ⟨some ⟨ga, 0, none⟩, ga, 0, m⟩) := hap1
            have HST9 : Hid (Sta w P H L K F n c xa xc zb v2 off ans) := HST8.out.grow hb2
            have HW2 : Hid (Held v2 (some ⟨gw, 0, none⟩) (Rec.num ox m)) := HW1.out.later hb2
            obtain ⟨_, d1, d2, _⟩ := (HOB8.out.later hb2).cells
            clear hr2 hp1 hap1 hga hb2 HST8 HW1 HOB8
            go_wp2_with fail
            refine (num_fit ox m _ HO.out.1 h1 h8 HV.out).mono ?_
            rintro e v3 ⟨rfl, hr3, hb3⟩
            obtain ⟨gb, hgb⟩ : ∃ gb, gb = v2.heap.size := ⟨_, rfl⟩
            obtain ⟨hp2, hap2⟩ := HST9.out.fresh v2.heap.size m (Nat.le_refl _)
            rw [← hgb] at hr3 hp2 hap2 HGA ⊢
            have HRB : Hid (v3.ownsRow gb 5 1 (.slice (some ⟨gb, 0, none⟩) m m) m (cellsOf (Rec.num ox m))) := hr3
            have HPB : Hid (w.heap.size ≤ gb ∧ gb ≠ F ∧ (∀ g', xa = some ⟨g', 0, none⟩ → gb ≠ g') ∧ (gb = H → 0 + m ≤ off)) := hp2
            have HAPB : Hid (∀ A ∈ ans.map (·.1), Ans.Apart A ⟨some ⟨gb, 0, none⟩, gb, 0, m⟩) := hap2
            have HST10 : Hid (Sta w P H L K F n c xa xc zb v3 off ans) := HST9.out.grow hb3
            have HW3 : Hid (Held v3 (some ⟨gw, 0, none⟩) (Rec.num ox m)) := HW2.out.later hb3
            have HRA3 : Hid (v3.ownsRow ga 5 1 (.slice (some ⟨ga, 0, none⟩) m m) m (cellsOf (Rec.num ox m))) := ownsRow_later HRA.out hb3
            clear hr3 hp2 hap2 hgb hb3 HST9 HW2 HRA d1 d2
            go_wp2_with fail
            refine (sta_take HST10.out HFX.out.bK (by omega) ⟨some ⟨ga, 0, none⟩, ga, 0, m⟩ (Rec.num ox m) (some ⟨gw, 0, none⟩) m cw (row_ans HRA3.out (Rec.num_length ox m).symm).1 (row_ans HRA3.out (Rec.num_length ox m).symm).2.1 (by show m ≤ _; omega) (fun _ => HPA.out) HAPA.out HW3.out (Rec.num_length ox m).symm).mono ?_
            rintro e v4 ⟨rfl, hs4, hk4⟩
            have HST11 : Hid (Sta w P H L K F n c xa xc zb v4 off (ans ++ [((⟨some ⟨ga, 0, none⟩, ga, 0, m⟩ : Ans), Rec.num ox m)])) := hs4
            have HW4 : Hid (Held v4 (some ⟨gw, 0, none⟩) (Rec.num ox m)) := HW3.out.keeps HST10.out hk4
            have HLB : Hid (Ans.Lies v4 ⟨some ⟨gb, 0, none⟩, gb, 0, m⟩ ∧ (m = (Rec.num ox m).length ∧ BytesAt v4 (some ⟨gb, 0, none⟩) (Rec.num ox m))) := by
              obtain ⟨l1, l2, _⟩ := row_ans HRB.out (Rec.num_length ox m).symm
              have hnk : gb ≠ K := by
                rcases l1 with e | ⟨_, cu, hcu, _⟩
                · exact absurd e (by show m ≠ 0; omega)
                · exact HST10.out.notK ⟨cu, hcu⟩
              exact ⟨lies_same l1 (sames_keeps hk4) (fun _ => ⟨hnk, by decide, by decide⟩), has_same (x := (⟨some ⟨gb, 0, none⟩, gb, 0, m⟩, Rec.num ox m)) l1 l2 (sames_keeps hk4) (fun _ => ⟨hnk, by decide, by decide⟩)⟩
            have HAP5 : Hid (∀ A ∈ (ans ++ [((⟨some ⟨ga, 0, none⟩, ga, 0, m⟩ : Ans), Rec.num ox m)]).map (·.1), Ans.Apart A ⟨some ⟨gb, 0, none⟩, gb, 0, m⟩) := fun A hA => by
              rw [List.map_append] at hA
              rcases List.mem_append.1 hA with hA | hA
              · exact HAPB.out A hA
              · simp at hA
                subst hA
                exact Or.inr (Or.inr (Or.inl (by show ga ≠ gb; have := HGA.out; omega)))
            clear hs4 hk4 HST10 HW3 HRA3 HRB HAPB HAPA HPA
            go_wp2_with fail
            refine (sta_take HST11.out HFX.out.bK (by simp; omega) ⟨some ⟨gb, 0, none⟩, gb, 0, m⟩ (Rec.num ox m) (some ⟨gw, 0, none⟩) m cw HLB.out.1 HLB.out.2 (by show m ≤ _; omega) (fun _ => HPB.out) HAP5.out HW4.out (Rec.num_length ox m).symm).mono ?_
            rintro e v5 ⟨rfl, hs5, _⟩
            have HSTZ : Hid (Sta w P H L K F n c xa xc zb v5 off (ans ++ [((⟨some ⟨ga, 0, none⟩, ga, 0, m⟩ : Ans), Rec.num ox m)] ++ [((⟨some ⟨gb, 0, none⟩, gb, 0, m⟩ : Ans), Rec.num ox m)])) := hs5
            clear hs5 HST11 HLB HAP5 HW4 HPB
            have HD1 : Hid (zb.length ≤ 16777216) := by show _ ≤ _; rw [← HN.out]; omega
            go_wp2_with fail
            refine (sta_left HSTZ.out).mono ?_
            rintro e v1 ⟨rfl, rfl⟩
            go_wp2_with fail
            refine (sta_xleft HSTZ.out HD1.out).mono ?_
            rintro e v2 ⟨rfl, hstY, hblY⟩
            have HSTY : Hid (Sta w P H L K F n c xa xc zb v2 off (ans ++ [((⟨some ⟨ga, 0, none⟩, ga, 0, m⟩ : Ans), Rec.num ox m)] ++ [((⟨some ⟨gb, 0, none⟩, gb, 0, m⟩ : Ans), Rec.num ox m)])) := hstY
            clear hstY hblY HSTZ
            go_wp2_with fail
            go_roundw
            case rel => exact ⟨k + 1, off, (ans ++ [((⟨some ⟨ga, 0, none⟩, ga, 0, m⟩ : Ans), Rec.num ox m)] ++ [((⟨some ⟨gb, 0, none⟩, gb, 0, m⟩ : Ans), Rec.num ox m)]), by omega, by omega, by go_num, by first | omega | (simp; omega), HSTY⟩
            case measure => simp [intOf]; omega
      by_cases h1 : ok = 1
      · subst h1
        as_aux_lemma =>
          go_wp2_with fail
          refine (rText_any os _ HO.out.2).mono ?_
          rintro e v1 ⟨aw, cw, rfl, hyw, hb1, gw, cu, haw, hcu⟩
          have HW1 : Hid (Held v1 aw (Rec.text os)) := Or.inr ⟨gw, 0, cu, haw, hcu, hyw⟩
          have HST8 : Hid (Sta w P H L K F n c xa xc zb v1 off ans) := HST7.out.grow hb1
          have HOB8 : Hid (OB v1 wr.heap.size 1 on ox os) := HOB7.out.later hb1
          obtain ⟨_, _, _, d3⟩ := HOB8.out.cells
          clear hyw haw hcu hb1 HST7 HOB7 hst
          go_wp2_with fail
          refine (text_fit os _ HO.out.2).mono ?_
          rintro e v2 ⟨rfl, hr2, hb2⟩
          obtain ⟨ga, hga⟩ : ∃ ga, ga = v1.heap.size := ⟨_, rfl⟩
          obtain ⟨hp1, hap1⟩ := HST8.out.fresh v1.heap.size (4 + os.size) (Nat.le_refl _)
          rw [← hga] at hr2 hp1 hap1 ⊢
          have HRA : Hid (v2.ownsRow ga 5 1 (.slice (some ⟨ga, 0, none⟩) (4 + os.size) (4 + os.size)) (4 + os.size) (cellsOf (Rec.text os))) := hr2
          have HPA : Hid (w.heap.size ≤ ga ∧ ga ≠ F ∧ (∀ g', xa = some ⟨g', 0, none⟩ → ga ≠ g') ∧ (ga = H → 0 + (4 + os.size) ≤ off)) := hp1
          have HAPA : Hid (∀ A ∈ ans.map (·.1), Ans.Apart A ⟨some ⟨ga, 0, none⟩, ga, 0, 4 + os.size⟩) := hap1
          have HST9 : Hid (Sta w P H L K F n c xa xc zb v2 off ans) := HST8.out.grow hb2
          have HW2 : Hid (Held v2 aw (Rec.text os)) := HW1.out.later hb2
          have HOB9 : Hid (OB v2 wr.heap.size 1 on ox os) := HOB8.out.later hb2
          clear hr2 hp1 hap1 hga hb2 HST8 HW1 HOB8 d3
          go_wp2_with fail
          refine (sta_take HST9.out HFX.out.bK (by omega) ⟨some ⟨ga, 0, none⟩, ga, 0, 4 + os.size⟩ (Rec.text os) aw (4 + os.size) cw (row_ans HRA.out (Rec.text_length os).symm).1 (row_ans HRA.out (Rec.text_length os).symm).2.1 (by show 4 + os.size ≤ _; have := HO.out.2; omega) (fun _ => HPA.out) HAPA.out HW2.out (Rec.text_length os).symm).mono ?_
          rintro e v3 ⟨rfl, hs3, hk3⟩
          have HST10 : Hid (Sta w P H L K F n c xa xc zb v3 off (ans ++ [((⟨some ⟨ga, 0, none⟩, ga, 0, 4 + os.size⟩ : Ans), Rec.text os)])) := hs3
          have HW3 : Hid (Held v3 aw (Rec.text os)) := HW2.out.keeps HST9.out hk3
          obtain ⟨_, _, _, d3⟩ := (HOB9.out.same (sames_keeps hk3) ⟨HST9.out.notK50 HOB9.out, by decide, by decide⟩).cells
          clear hs3 hk3 HST9 HW2 HOB9 HRA HPA HAPA
          go_wp2_with fail
          refine (text_fit os _ HO.out.2).mono ?_
          rintro e v4 ⟨rfl, hr4, hb4⟩
          obtain ⟨gb, hgb⟩ : ∃ gb, gb = v3.heap.size := ⟨_, rfl⟩
          obtain ⟨hp2, hap2⟩ := HST10.out.fresh v3.heap.size (4 + os.size) (Nat.le_refl _)
          rw [← hgb] at hr4 hp2 hap2 ⊢
          have HRB : Hid (v4.ownsRow gb 5 1 (.slice (some ⟨gb, 0, none⟩) (4 + os.size) (4 + os.size)) (4 + os.size) (cellsOf (Rec.text os))) := hr4
          have HPB : Hid (w.heap.size ≤ gb ∧ gb ≠ F ∧ (∀ g', xa = some ⟨g', 0, none⟩ → gb ≠ g') ∧ (gb = H → 0 + (4 + os.size) ≤ off)) := hp2
          have HAPB : Hid (∀ A ∈ (ans ++ [((⟨some ⟨ga, 0, none⟩, ga, 0, 4 + os.size⟩ : Ans), Rec.text os)]).map (·.1), Ans.Apart A ⟨some ⟨gb, 0, none⟩, gb, 0, 4 + os.size⟩) := hap2
          have HST11 : Hid (Sta w P H L K F n c xa xc zb v4 off (ans ++ [((⟨some ⟨ga, 0, none⟩, ga, 0, 4 + os.size⟩ : Ans), Rec.text os)])) := HST10.out.grow hb4
          have HW4 : Hid (Held v4 aw (Rec.text os)) := HW3.out.later hb4
          clear hr4 hp2 hap2 hgb hb4 HST10 HW3 d3
          go_wp2_with fail
          refine (sta_take HST11.out HFX.out.bK (by simp; omega) ⟨some ⟨gb, 0, none⟩, gb, 0, 4 + os.size⟩ (Rec.text os) aw (4 + os.size) cw (row_ans HRB.out (Rec.text_length os).symm).1 (row_ans HRB.out (Rec.text_length os).symm).2.1 (by show 4 + os.size ≤ _; have := HO.out.2; omega) (fun _ => HPB.out) HAPB.out HW4.out (Rec.text_length os).symm).mono ?_
          rintro e v5 ⟨rfl, hs5, _⟩
          have HSTZ : Hid (Sta w P H L K F n c xa xc zb v5 off (ans ++ [((⟨some ⟨ga, 0, none⟩, ga, 0, 4 + os.size⟩ : Ans), Rec.text os)] ++ [((⟨some ⟨gb, 0, none⟩, gb, 0, 4 + os.size⟩ : Ans), Rec.text os)])) := hs5
          clear hs5 HST11 HW4 HRB HPB HAPB
          have HD1 : Hid (zb.length ≤ 16777216) := by show _ ≤ _; rw [← HN.out]; omega
          go_wp2_with fail
          refine (sta_left HSTZ.out).mono ?_
          rintro e v1 ⟨rfl, rfl⟩
          go_wp2_with fail
          refine (sta_xleft HSTZ.out HD1.out).mono ?_
          rintro e v2 ⟨rfl, hstY, hblY⟩
          have HSTY : Hid (Sta w P H L K F n c xa xc zb v2 off (ans ++ [((⟨some ⟨ga, 0, none⟩, ga, 0, 4 + os.size⟩ : Ans), Rec.text os)] ++ [((⟨some ⟨gb, 0, none⟩, gb, 0, 4 + os.size⟩ : Ans), Rec.text os)])) := hstY
          clear hstY hblY HSTZ
          go_wp2_with fail
          go_roundw
          case rel => exact ⟨k + 1, off, (ans ++ [((⟨some ⟨ga, 0, none⟩, ga, 0, 4 + os.size⟩ : Ans), Rec.text os)] ++ [((⟨some ⟨gb, 0, none⟩, gb, 0, 4 + os.size⟩ : Ans), Rec.text os)]), by omega, by omega, by go_num, by first | omega | (simp; omega), HSTY⟩
          case measure => simp [intOf]; omega
      by_cases h2 : ok = 2
      · subst h2
        as_aux_lemma =>
          by_cases hw : on < 1 ∨ 8 < on
          · have HW : Hid (on < 1 ∨ 8 < on) := hw
            clear hw
            go_wp2_with fail
            refine (xnum_wide L on _ HW.out).mono ?_
            rintro e v1 ⟨rfl, hv1⟩
            subst hv1
            go_wp2_with fail
            refine (rnum_wide P on _ HW.out).mono ?_
            rintro e v2 ⟨rfl, hv2⟩
            subst hv2
            have HSTZ := HST7
            have HD1 : Hid (zb.length ≤ 16777216) := by show _ ≤ _; rw [← HN.out]; omega
            go_wp2_with fail
            refine (sta_left HSTZ.out).mono ?_
            rintro e v1 ⟨rfl, rfl⟩
            go_wp2_with fail
            refine (sta_xleft HSTZ.out HD1.out).mono ?_
            rintro e v2 ⟨rfl, hstY, hblY⟩
            have HSTY : Hid (Sta w P H L K F n c xa xc zb v2 off ans) := hstY
            clear hstY hblY HSTZ
            go_wp2_with fail
            go_roundw
            case rel => exact ⟨k + 1, off, ans, by omega, by omega, by go_num, by first | omega | (simp; omega), HSTY⟩
            case measure => simp [intOf]; omega

          · obtain ⟨m, rfl⟩ : ∃ m : Nat, on = m := ⟨on.toNat, by omega⟩
            have h1 : 1 ≤ m := by omega
            have h8 : m ≤ 8 := by omega
            clear hw
            by_cases hs : zb.length - off < m
            · have HS : Hid (zb.length - off < m) := hs
              clear hs
              go_wp2_with fail
              refine (xnum_short L xa xc off m zb _ HST7.out.rx HD.out h1 h8 HS.out).mono ?_
              rintro e v1 ⟨rfl, hb1⟩
              have HST8 : Hid (Sta w P H L K F n c xa xc zb v1 off ans) := HST7.out.grow hb1
              obtain ⟨_, d1, _, _⟩ := (HOB7.out.later hb1).cells
              clear hb1 HST7 HOB7 hst
              go_wp2_with fail
              refine (rnum_short P H off m (zb.drop off) _ HST8.out.rd h1 h8 (by rw [List.length_drop]; exact HS.out)).mono ?_
              rintro e v2 ⟨rfl, hv2⟩
              subst hv2
              have HSTZ := HST8
              clear HST8 d1
              have HD1 : Hid (zb.length ≤ 16777216) := by show _ ≤ _; rw [← HN.out]; omega
              go_wp2_with fail
              refine (sta_left HSTZ.out).mono ?_
              rintro e v1 ⟨rfl, rfl⟩
              go_wp2_with fail
              refine (sta_xleft HSTZ.out HD1.out).mono ?_
              rintro e v2 ⟨rfl, hstY, hblY⟩
              have HSTY : Hid (Sta w P H L K F n c xa xc zb v2 off ans) := hstY
              clear hstY hblY HSTZ
              go_wp2_with fail
              go_roundw
              case rel => exact ⟨k + 1, off, ans, by omega, by omega, by go_num, by first | omega | (simp; omega), HSTY⟩
              case measure => simp [intOf]; omega

            · have HS : Hid (off + m ≤ zb.length) := by show _ ≤ _; have := HST7.out.le; omega
              clear hs
              go_wp2_with fail
              refine (xnum_ok L xa xc off m zb _ HST7.out.rx HBS.out HD.out h1 h8 HS.out).mono ?_
              rintro e v1 ⟨rfl, hx1, hg1⟩
              have hr1 := HST7.out.rd1 hg1
              obtain ⟨_, d1, _, _⟩ := (HOB7.out.same (sames_grown hg1 HST7.out.rx.1) (by simp)).cells
              have HX1 : Hid (Rx v1 L xa xc (off + m) zb) := hx1
              have HG1 : Hid (World.grownBy _ v1 (some L)) := hg1
              have HR1 : Hid (Rd v1 P H off (zb.drop off)) := hr1
              clear hx1 hg1 hr1
              go_wp2_with fail
              refine (rnum_ok P H off m (zb.drop off) _ HR1.out h1 h8 (by rw [List.length_drop]; have := HD.out; omega) (by rw [List.length_drop]; have := HS.out; omega) (Rec.bs_drop HBS.out off)).mono ?_
              rintro e v2 ⟨rfl, hr2, hg2⟩
              rw [List.drop_drop] at hr2
              have HSTZ : Hid (Sta w P H L K F n c xa xc zb v2 (off + m) ans) := HST7.out.move HG1.out hg2 HFX.out.bP HFX.out.bX (off + m) (by omega) HS.out HX1.out hr2 HR1.out.block
              clear hr2 hg2 HX1 HG1 HR1 HST7 HOB7 d1 hst
              obtain ⟨V, hV⟩ : ∃ V, V = Rec.val ((zb.drop off).take m) := ⟨_, rfl⟩
              rw [← hV]
              clear hV
              have HD1 : Hid (zb.length ≤ 16777216) := by show _ ≤ _; rw [← HN.out]; omega
              go_wp2_with fail
              refine (sta_left HSTZ.out).mono ?_
              rintro e v1 ⟨rfl, rfl⟩
              go_wp2_with fail
              refine (sta_xleft HSTZ.out HD1.out).mono ?_
              rintro e v2 ⟨rfl, hstY, hblY⟩
              have HSTY : Hid (Sta w P H L K F n c xa xc zb v2 (off + m) ans) := hstY
              clear hstY hblY HSTZ
              go_wp2_with fail
              go_roundw
              case rel => exact ⟨k + 1, (off + m), ans, by omega, by omega, by go_num, by first | omega | (simp; omega), HSTY⟩
              case measure => simp [intOf]; omega
      by_cases h3 : ok = 3
      · subst h3
        as_aux_lemma =>
          by_cases hs4 : zb.length - off < 4
          · have HS : Hid (zb.length - off < 4) := hs4
            clear hs4
            go_wp2_with fail
            refine (xtext_short4 L xa xc off zb _ HST7.out.rx HD.out HS.out).mono ?_
            rintro e v1 ⟨rfl, hb1⟩
            have HST8 : Hid (Sta w P H L K F n c xa xc zb v1 off ans) := HST7.out.grow hb1
            clear hb1 HST7 HOB7 hst
            go_wp2_with fail
            refine (rtext_short4 P H off (zb.drop off) _ HST8.out.rd (by rw [List.length_drop]; exact HS.out)).mono ?_
            rintro e v2 ⟨rfl, hv2⟩
            subst hv2
            have HSTZ := HST8
            clear HST8
            have HD1 : Hid (zb.length ≤ 16777216) := by show _ ≤ _; rw [← HN.out]; omega
            go_wp2_with fail
            refine (sta_left HSTZ.out).mono ?_
            rintro e v1 ⟨rfl, rfl⟩
            go_wp2_with fail
            refine (sta_xleft HSTZ.out HD1.out).mono ?_
            rintro e v2 ⟨rfl, hstY, hblY⟩
            have HSTY : Hid (Sta w P H L K F n c xa xc zb v2 off ans) := hstY
            clear hstY hblY HSTZ
            go_wp2_with fail
            go_roundw
            case rel => exact ⟨k + 1, off, ans, by omega, by omega, by go_num, by first | omega | (simp; omega), HSTY⟩
            case measure => simp [intOf]; omega

          · have H4 : Hid (off + 4 ≤ zb.length) := by show _ ≤ _; have := HST7.out.le; omega
            clear hs4
            by_cases hs : zb.length < off + 4 + Rec.val ((zb.drop off).take 4)
            · have HS : Hid (zb.length < off + 4 + Rec.val ((zb.drop off).take 4)) := hs
              clear hs
              go_wp2_with fail
              refine (xtext_short L xa xc off zb _ HST7.out.rx HBS.out HD.out H4.out HS.out).mono ?_
              rintro e v1 ⟨rfl, hb1⟩
              have HST8 : Hid (Sta w P H L K F n c xa xc zb v1 off ans) := HST7.out.grow hb1
              clear hb1 HST7 HOB7 hst
              go_wp2_with fail
              refine (rtext_short P H off (zb.drop off) _ HST8.out.rd (Rec.bs_drop HBS.out off) (by rw [List.length_drop]; have := HD.out; omega) (by rw [List.length_drop]; have := H4.out; omega) (by rw [List.length_drop]; have := HS.out; have := H4.out; omega)).mono ?_
              rintro e v2 ⟨rfl, hv2⟩
              subst hv2
              have HSTZ := HST8
              clear HST8
              have HD1 : Hid (zb.length ≤ 16777216) := by show _ ≤ _; rw [← HN.out]; omega
              go_wp2_with fail
              refine (sta_left HSTZ.out).mono ?_
              rintro e v1 ⟨rfl, rfl⟩
              go_wp2_with fail
              refine (sta_xleft HSTZ.out HD1.out).mono ?_
              rintro e v2 ⟨rfl, hstY, hblY⟩
              have HSTY : Hid (Sta w P H L K F n c xa xc zb v2 off ans) := hstY
              clear hstY hblY HSTZ
              go_wp2_with fail
              go_roundw
              case rel => exact ⟨k + 1, off, ans, by omega, by omega, by go_num, by first | omega | (simp; omega), HSTY⟩
              case measure => simp [intOf]; omega

            · obtain ⟨V, hV⟩ : ∃ V, V = Rec.val ((zb.drop off).take 4) := ⟨_, rfl⟩
              have HS : Hid (off + 4 + Rec.val ((zb.drop off).take 4) ≤ zb.length) := by show _ ≤ _; omega
              have HV : Hid (V = Rec.val ((zb.drop off).take 4)) := hV
              have HSV : Hid (off + 4 + V ≤ zb.length) := by rw [hV]; exact HS
              clear hs hV
              go_wp2_with fail
              refine (xtext_ok L xa xc off zb _ HST7.out.rx HBS.out HD.out HS.out).mono ?_
              rintro e v1 ⟨rfl, hx1, hg1⟩
              rw [← HV.out] at hx1 ⊢
              have HX1 : Hid (Rx v1 L xa xc (off + 4 + V) zb) := hx1
              have HG1 : Hid (World.grownBy _ v1 (some L)) := hg1
              have HR1 : Hid (Rd v1 P H off (zb.drop off)) := HST7.out.rd1 hg1
              clear hx1 hg1
              go_wp2_with fail
              refine (rtext_ok P H off (zb.drop off) _ HR1.out (Rec.bs_drop HBS.out off) (by rw [List.length_drop]; have := HD.out; omega) (by rw [List.length_drop]; have := HS.out; omega)).mono ?_
              rintro e v2 ⟨rfl, hr2, hg2⟩
              rw [← HV.out, List.drop_drop] at hr2 ⊢
              have hr3 : Rd v2 P H (off + 4 + V) (zb.drop (off + 4 + V)) := by rw [← Nat.add_assoc] at hr2; exact hr2
              have HSTZ : Hid (Sta w P H L K F n c xa xc zb v2 (off + 4 + V) ans) := HST7.out.move HG1.out hg2 HFX.out.bP HFX.out.bX (off + 4 + V) (by omega) HSV.out HX1.out hr3 HR1.out.block
              clear hr2 hr3 hg2 HX1 HG1 HR1 HST7 HOB7 hst
              obtain ⟨SS, hSS⟩ : ∃ SS, SS = strOfNums ((zb.drop (off + 4)).take V) := ⟨_, rfl⟩
              rw [← hSS]
              clear hSS
              have HD1 : Hid (zb.length ≤ 16777216) := by show _ ≤ _; rw [← HN.out]; omega
              go_wp2_with fail
              refine (sta_left HSTZ.out).mono ?_
              rintro e v1 ⟨rfl, rfl⟩
              go_wp2_with fail
              refine (sta_xleft HSTZ.out HD1.out).mono ?_
              rintro e v2 ⟨rfl, hstY, hblY⟩
              have HSTY : Hid (Sta w P H L K F n c xa xc zb v2 (off + 4 + V) ans) := hstY
              clear hstY hblY HSTZ
              go_wp2_with fail
              go_roundw
              case rel => exact ⟨k + 1, (off + 4 + V), ans, by omega, by omega, by go_num, by first | omega | (simp; omega), HSTY⟩
              case measure => simp [intOf]; omega
      by_cases h4 : ok = 4
      · subst h4
        as_aux_lemma =>
          by_cases hneg : on < 0
          · go_wp2_with fail
            refine (xtake_inval L on _ hneg).mono ?_
            rintro e v1 ⟨rfl, hv1⟩
            subst hv1
            go_wp2_with fail
            refine (take_inval P on _ hneg).mono ?_
            rintro e v2 ⟨rfl, hv2⟩
            subst hv2
            go_wp2_with fail
            refine (sta_take HST7.out HFX.out.bK (by omega) ⟨none, 0, 0, 0⟩ [] none 0 0 (Or.inl rfl) ⟨rfl, Or.inl rfl⟩ (by decide) (fun h => absurd rfl h) (fun A _ => Or.inr (Or.inl rfl)) (Or.inl rfl) rfl).mono ?_
            rintro e v3 ⟨rfl, hs3, _⟩
            have HSTZ : Hid (Sta w P H L K F n c xa xc zb v3 off (ans ++ [((⟨none, 0, 0, 0⟩ : Ans), ([] : List Int))])) := hs3
            clear hs3 HST7 HOB7 hst
            have HD1 : Hid (zb.length ≤ 16777216) := by show _ ≤ _; rw [← HN.out]; omega
            go_wp2_with fail
            refine (sta_left HSTZ.out).mono ?_
            rintro e v1 ⟨rfl, rfl⟩
            go_wp2_with fail
            refine (sta_xleft HSTZ.out HD1.out).mono ?_
            rintro e v2 ⟨rfl, hstY, hblY⟩
            have HSTY : Hid (Sta w P H L K F n c xa xc zb v2 off (ans ++ [((⟨none, 0, 0, 0⟩ : Ans), ([] : List Int))])) := hstY
            clear hstY hblY HSTZ
            go_wp2_with fail
            go_roundw
            case rel => exact ⟨k + 1, off, (ans ++ [((⟨none, 0, 0, 0⟩ : Ans), ([] : List Int))]), by omega, by omega, by go_num, by first | omega | (simp; omega), HSTY⟩
            case measure => simp [intOf]; omega

          · by_cases hs : ((zb.length - off : Nat) : Int) < on
            · have HS : Hid (((zb.length - off : Nat) : Int) < on) := hs
              clear hs
              go_wp2_with fail
              refine (xtake_short L xa xc off on zb _ HST7.out.rx HD.out HS.out).mono ?_
              rintro e v1 ⟨rfl, hb1⟩
              have HST8 : Hid (Sta w P H L K F n c xa xc zb v1 off ans) := HST7.out.grow hb1
              obtain ⟨_, d1, _, _⟩ := (HOB7.out.later hb1).cells
              clear hb1 HST7 HOB7 hst
              go_wp2_with fail
              refine (take_short P H off on (zb.drop off) _ HST8.out.rd (by rw [List.length_drop]; exact HS.out)).mono ?_
              rintro e v2 ⟨rfl, hv2⟩
              subst hv2
              go_wp2_with fail
              refine (sta_take HST8.out HFX.out.bK (by omega) ⟨none, 0, 0, 0⟩ [] none 0 0 (Or.inl rfl) ⟨rfl, Or.inl rfl⟩ (by decide) (fun h => absurd rfl h) (fun A _ => Or.inr (Or.inl rfl)) (Or.inl rfl) rfl).mono ?_
              rintro e v3 ⟨rfl, hs3, _⟩
              have HSTZ : Hid (Sta w P H L K F n c xa xc zb v3 off (ans ++ [((⟨none, 0, 0, 0⟩ : Ans), ([] : List Int))])) := hs3
              clear hs3 HST8 d1
              have HD1 : Hid (zb.length ≤ 16777216) := by show _ ≤ _; rw [← HN.out]; omega
              go_wp2_with fail
              refine (sta_left HSTZ.out).mono ?_
              rintro e v1 ⟨rfl, rfl⟩
              go_wp2_with fail
              refine (sta_xleft HSTZ.out HD1.out).mono ?_
              rintro e v2 ⟨rfl, hstY, hblY⟩
              have HSTY : Hid (Sta w P H L K F n c xa xc zb v2 off (ans ++ [((⟨none, 0, 0, 0⟩ : Ans), ([] : List Int))])) := hstY
              clear hstY hblY HSTZ
              go_wp2_with fail
              go_roundw
              case rel => exact ⟨k + 1, off, (ans ++ [((⟨none, 0, 0, 0⟩ : Ans), ([] : List Int))]), by omega, by omega, by go_num, by first | omega | (simp; omega), HSTY⟩
              case measure => simp [intOf]; omega

            · obtain ⟨m, rfl⟩ : ∃ m : Nat, on = m := ⟨on.toNat, by omega⟩
              have HS : Hid (off + m ≤ zb.length) := by show _ ≤ _; have := HST7.out.le; omega
              clear hs hneg
              by_cases hm0 : m = 0
              · subst hm0
                go_wp2_with fail
                refine (xtake_none L xa xc off zb _ HST7.out.rx HD.out).mono ?_
                rintro e v1 ⟨rfl, hx1, hg1⟩
                have hr1 := HST7.out.rd1 hg1
                obtain ⟨_, d1, _, _⟩ := (HOB7.out.same (sames_grown hg1 HST7.out.rx.1) (by simp)).cells
                have HX1 : Hid (Rx v1 L xa xc off zb) := hx1
                have HG1 : Hid (World.grownBy _ v1 (some L)) := hg1
                have HR1 : Hid (Rd v1 P H off (zb.drop off)) := hr1
                clear hx1 hg1 hr1
                go_wp2_with fail
                refine (take_ok P H off 0 (zb.drop off) _ HR1.out (by rw [List.length_drop]; have := HD.out; omega) (Nat.zero_le _)).mono ?_
                rintro e v2 ⟨a2, rfl, _, hb2, hr2, hg2⟩
                have HST9 : Hid (Sta w P H L K F n c xa xc zb v2 off ans) := HST7.out.move HG1.out hg2 HFX.out.bP HFX.out.bX off (Nat.le_refl _) HST7.out.le HX1.out hr2 HR1.out.block
                clear hb2 hr2 hg2 HX1 HG1 HR1 HST7 HOB7 d1 hst
                go_wp2_with fail
                refine (sta_take HST9.out HFX.out.bK (by omega) ⟨a2, 0, 0, 0⟩ [] none 0 0 (Or.inl rfl) ⟨rfl, Or.inl rfl⟩ (Nat.zero_le _) (fun h => absurd rfl h) (fun A _ => Or.inr (Or.inl rfl)) (Or.inl rfl) rfl).mono ?_
                rintro e v3 ⟨rfl, hs3, _⟩
                have HSTZ : Hid (Sta w P H L K F n c xa xc zb v3 off (ans ++ [((⟨a2, 0, 0, 0⟩ : Ans), ([] : List Int))])) := hs3
                clear hs3 HST9
                have HD1 : Hid (zb.length ≤ 16777216) := by show _ ≤ _; rw [← HN.out]; omega
                go_wp2_with fail
                refine (sta_left HSTZ.out).mono ?_
                rintro e v1 ⟨rfl, rfl⟩
                go_wp2_with fail
                refine (sta_xleft HSTZ.out HD1.out).mono ?_
                rintro e v2 ⟨rfl, hstY, hblY⟩
                have HSTY : Hid (Sta w P H L K F n c xa xc zb v2 off (ans ++ [((⟨a2, 0, 0, 0⟩ : Ans), ([] : List Int))])) := hstY
                clear hstY hblY HSTZ
                go_wp2_with fail
                go_roundw
                case rel => exact ⟨k + 1, off, (ans ++ [((⟨a2, 0, 0, 0⟩ : Ans), ([] : List Int))]), by omega, by omega, by go_num, by first | omega | (simp; omega), HSTY⟩
                case measure => simp [intOf]; omega

              · have h1 : 1 ≤ m := by omega
                clear hm0
                go_wp2_with fail
                refine (xtake_ok L xa xc off m zb _ HST7.out.rx HD.out h1 HS.out).mono ?_
                rintro e v1 ⟨aw, cw, rfl, hby, hx1, hg1, gw, cu, haw, hcu⟩
                have hr1 := HST7.out.rd1 hg1
                obtain ⟨_, d1, _, _⟩ := (HOB7.out.same (sames_grown hg1 HST7.out.rx.1) (by simp)).cells
                have HX1 : Hid (Rx v1 L xa xc (off + m) zb) := hx1
                have HG1 : Hid (World.grownBy _ v1 (some L)) := hg1
                have HR1 : Hid (Rd v1 P H off (zb.drop off)) := hr1
                have HW1 : Hid (Held v1 aw ((zb.drop off).take m)) := Or.inr ⟨gw, 0, cu, haw, hcu, hby⟩
                clear hx1 hg1 hr1 hby haw hcu
                go_wp2_with fail
                refine (take_ok P H off m (zb.drop off) _ HR1.out (by rw [List.length_drop]; have := HD.out; omega) (by rw [List.length_drop]; have := HS.out; omega)).mono ?_
                rintro e v2 ⟨a2, rfl, ha2, hb2, hr2, hg2⟩
                rw [List.drop_drop] at hr2
                obtain rfl := ha2 (by omega)
                obtain ⟨cp, hcp⟩ := HR1.out.block
                have HST9 : Hid (Sta w P H L K F n c xa xc zb v2 (off + m) ans) := HST7.out.move HG1.out hg2 HFX.out.bP HFX.out.bX (off + m) (by omega) HS.out HX1.out hr2 ⟨cp, hcp⟩
                have HW2 : Hid (Held v2 aw ((zb.drop off).take m)) := HW1.out.same (sames_grown hg2 hcp) (fun _ _ => by simp)
                have HB2 : Hid (BytesAt v2 (some ⟨H, off, none⟩) ((zb.drop off).take m)) := hb2
                have HAP : Hid (∀ A ∈ ans.map (·.1), Ans.Apart A ⟨some ⟨H, off, none⟩, H, off, m⟩) := fun A hA => by
                  by_cases h0 : A.n = 0
                  · exact Or.inl h0
                  · by_cases e : A.b = H
                    · exact Or.inr (Or.inr (Or.inr ((HST7.out.place A hA h0).2.2.2 e)))
                    · exact Or.inr (Or.inr (Or.inl e))
                have HLI : Hid (Ans.Lies v2 ⟨some ⟨H, off, none⟩, H, off, m⟩) := by
                  obtain ⟨cur, hc, hl⟩ := HST9.out.hrow
                  exact Or.inr ⟨rfl, cur, hc, by show off + m ≤ _; have := HS.out; omega⟩
                clear hb2 hr2 hg2 hcp HX1 HG1 HR1 HW1 HST7 HOB7 d1 hst ha2
                go_wp2_with fail
                refine (sta_take HST9.out HFX.out.bK (by omega) ⟨some ⟨H, off, none⟩, H, off, m⟩ ((zb.drop off).take m) aw m cw HLI.out ⟨(sub_length HS.out).symm, HB2.out⟩ (by show m ≤ _; have := HS.out; have := HD.out; omega) (fun _ => ⟨HFX.out.bH, HFX.out.hf, fun g e => Ne.symm (HFX.out.xg g e).2.2, fun _ => Nat.le_refl _⟩) HAP.out HW2.out (sub_length HS.out).symm).mono ?_
                rintro e v3 ⟨rfl, hs3, _⟩
                have HSTZ : Hid (Sta w P H L K F n c xa xc zb v3 (off + m) (ans ++ [((⟨some ⟨H, off, none⟩, H, off, m⟩ : Ans), (zb.drop off).take m)])) := hs3
                clear hs3 HST9 HLI HAP HB2 HW2
                have HD1 : Hid (zb.length ≤ 16777216) := by show _ ≤ _; rw [← HN.out]; omega
                go_wp2_with fail
                refine (sta_left HSTZ.out).mono ?_
                rintro e v1 ⟨rfl, rfl⟩
                go_wp2_with fail
                refine (sta_xleft HSTZ.out HD1.out).mono ?_
                rintro e v2 ⟨rfl, hstY, hblY⟩
                have HSTY : Hid (Sta w P H L K F n c xa xc zb v2 (off + m) (ans ++ [((⟨some ⟨H, off, none⟩, H, off, m⟩ : Ans), (zb.drop off).take m)])) := hstY
                clear hstY hblY HSTZ
                go_wp2_with fail
                go_roundw
                case rel => exact ⟨k + 1, (off + m), (ans ++ [((⟨some ⟨H, off, none⟩, H, off, m⟩ : Ans), (zb.drop off).take m)]), by omega, by omega, by go_num, by first | omega | (simp; omega), HSTY⟩
                case measure => simp [intOf]; omega
      by_cases h5 : ok = 5
      · subst h5
        as_aux_lemma =>
          go_wp2_with fail
          refine (sta_left HST7.out).mono ?_
          rintro e v1 ⟨rfl, hv1⟩
          subst hv1
          go_wp2_with fail
          refine (sta_xleft HST7.out HD.out).mono ?_
          rintro e v2 ⟨rfl, hs8, _⟩
          have HSTZ : Hid (Sta w P H L K F n c xa xc zb v2 off ans) := hs8
          clear hs8 HST7 HOB7 hst
          have HD1 : Hid (zb.length ≤ 16777216) := by show _ ≤ _; rw [← HN.out]; omega
          go_wp2_with fail
          refine (sta_left HSTZ.out).mono ?_
          rintro e v1 ⟨rfl, rfl⟩
          go_wp2_with fail
          refine (sta_xleft HSTZ.out HD1.out).mono ?_
          rintro e v2 ⟨rfl, hstY, hblY⟩
          have HSTY : Hid (Sta w P H L K F n c xa xc zb v2 off ans) := hstY
          clear hstY hblY HSTZ
          go_wp2_with fail
          go_roundw
          case rel => exact ⟨k + 1, off, ans, by omega, by omega, by go_num, by first | omega | (simp; omega), HSTY⟩
          case measure => simp [intOf]; omega
      by_cases h6 : ok = 6
      · subst h6
        as_aux_lemma =>
          go_wp2_with fail
          go_loopw [32] (fun j v => ∃ q : Nat, q ≤ n ∧ j = .int .i64 q ∧ Hid (Sta w P H L K F n c xa xc zb v off ans)) (fun j _ => n - (intOf j).toNat)
          case atStart => exact ⟨0, Nat.zero_le _, rfl, HST7⟩
          case round =>
            clear HST7 HOB7 hst
            obtain ⟨q, hq, rfl, hstq⟩ := hrel
            by_cases hql : q < n
            · obtain ⟨z, hz, hcz, hfz, hset⟩ := sta_F hstq.out HFX.out q hql
              have HSET : Hid (∀ y : Int, 0 ≤ y → y < 256 → Sta w P H L K F n c xa xc zb (wr.setCell ⟨F, q, none⟩ (.int .u8 y)) off ans) := hset
              clear hset
              go_wp2_with fail
              go_roundw
              case rel => exact ⟨q + 1, by omega, by go_num, HSET.out _ (by omega) (by omega)⟩
              case measure => simp [intOf]; omega
            · have HSTZ := hstq
              clear hstq
              have HD1 : Hid (zb.length ≤ 16777216) := by show _ ≤ _; rw [← HN.out]; omega
              go_wp2_with fail
              refine (sta_left HSTZ.out).mono ?_
              rintro e v1 ⟨rfl, rfl⟩
              go_wp2_with fail
              refine (sta_xleft HSTZ.out HD1.out).mono ?_
              rintro e v2 ⟨rfl, hstY, hblY⟩
              have HSTY : Hid (Sta w P H L K F n c xa xc zb v2 off ans) := hstY
              clear hstY hblY HSTZ
              go_wp2_with fail
              go_roundw
              case rel => exact ⟨k + 1, off, ans, by omega, by omega, by go_num, by first | omega | (simp; omega), HSTY⟩
              case measure => simp [intOf]; omega
      as_aux_lemma =>
        have HSTZ := HST7
        have HD1 : Hid (zb.length ≤ 16777216) := by show _ ≤ _; rw [← HN.out]; omega
        go_wp2_with fail
        refine (sta_left HSTZ.out).mono ?_
        rintro e v1 ⟨rfl, rfl⟩
        go_wp2_with fail
        refine (sta_xleft HSTZ.out HD1.out).mono ?_
        rintro e v2 ⟨rfl, hstY, hblY⟩
        have HSTY : Hid (Sta w P H L K F n c xa xc zb v2 off ans) := hstY
        clear hstY hblY HSTZ
        go_wp2_with fail
        go_roundw
        case rel => exact ⟨k + 1, off, ans, by omega, by omega, by go_num, by first | omega | (simp; omega), HSTY⟩
        case measure => simp [intOf]; omega
    · as_aux_lemma =>
      have HWH : Hid (Calls Try.prog 26 #[.pointer (some ⟨K, 0, none⟩)] wr fun e u' => e = .returned (.bool true) ∧ Below w.heap.size wr u' ∧ Untouched ans wr u') := whole_any K w.heap.size ans wr hst.out.book hst.out.below.size (by omega) hst.out.lies hst.out.has hst.out.sz (fun A hA h0 => (hst.out.place A hA h0).1) hst.out.apart
      have HFC : Hid (∀ v, Untouched ans wr v → v.cell? ⟨F, n, none⟩ = some (.int .u8 77) ∧ v.cell? ⟨F, n + 1, none⟩ = some (.int .u8 78)) := fun v hv => by
        obtain ⟨zf, f1, _, f3⟩ := hst.out.full
        have g1 := f3.cellAt n (by omega)
        have g2 := f3.cellAt (n + 1) (by omega)
        have hF : ∃ cf, wr.heap[F]? = some (.cells cf 5 (0, 0)) := by
          rcases f3.2 with ⟨e, _⟩ | ⟨g, cap, cu, hv, _, hg, _⟩
          · cases e
          · cases hv; exact ⟨cu, hg⟩
        obtain ⟨cf, hcf⟩ := hF
        have hcf' := hv F cf (0, 0) hcf (fun A hA => by
          by_cases h0 : A.n = 0
          · exact Or.inl h0
          · exact Or.inr (hst.out.place A hA h0).2.1)
        refine ⟨(World.cell?_of_block (w := wr) (w' := v) (a := ⟨F, n, none⟩) (hcf'.trans hcf.symm)).trans (g1.trans ?_), (World.cell?_of_block (w := wr) (w' := v) (a := ⟨F, n + 1, none⟩) (hcf'.trans hcf.symm)).trans (g2.trans ?_)⟩
        · simp [cellsOf, ← f1]
        · simp [cellsOf, ← f1]
      have HBE : Hid (Below w.heap.size w wr) := hst.out.below
      by_cases hns2 : k < ns
      · have hk3 : ¬ k < 200 := fun h => hlt ⟨hns2, h⟩
        clear hlt
        go_wp2_with fail
        refine Calls.mono HWH.out ?_
        rintro e v1 ⟨rfl, hb1, hun⟩
        obtain ⟨e1, e2⟩ := HFC.out v1 hun
        have HBF : Hid (Below w.heap.size w v1) := HBE.out.trans hb1
        clear hb1 hun
        go_wp2
        go_ret
        exact ⟨rfl, HBF.out⟩
      · clear hlt
        go_wp2_with fail
        refine Calls.mono HWH.out ?_
        rintro e v1 ⟨rfl, hb1, hun⟩
        obtain ⟨e1, e2⟩ := HFC.out v1 hun
        have HBF : Hid (Below w.heap.size w v1) := HBE.out.trans hb1
        clear hb1 hun
        go_wp2
        go_ret
        exact ⟨rfl, HBF.out⟩

end Go.Proofs.Ytfncocffnfebbaa
