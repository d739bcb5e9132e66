
import Derived.Test.YtmjnobdlgbojoaaGreatDoorG31
import Derived.Test.YtmjnobdlgbojoaaGreatDoorG18
import Derived.Test.YtmjnobdlgbojoaaGreatDoorG04
import Derived.Test.YtmjnobdlgbojoaaGreatDoorG00
namespace Go.Proofs.YtmjnobdlgbojoaaGreatDoor
open Go.RowKit
attribute [local go_sem ↓] Go.wp_at_zero Go.wp_at_succ
def WBk (u : World) (W : Nat) (line : ByteArray) (l : Int) : Prop := u.heap[W]? = some (.cells #[.string line, .int .i64 l] 105 (0, 0))
section
variable {u u' : World} {W : Nat} {line : ByteArray} {l : Int}
theorem WBk.lt (h : WBk u W line l) : W < u.heap.size := (Array.getElem?_eq_some_iff.1 h).1
theorem WBk.cells (h : WBk u W line l) : u.cell? ⟨W, 0, none⟩ = some (.string line) ∧ u.cell? ⟨W, 1, none⟩ = some (.int .i64 l) := by
  unfold WBk at h
  simp [World.cell?, h]
theorem WBk.frozen (h : WBk u W line l) (i : Nat) : u.frozen? ⟨W, i, none⟩ = false := by
  unfold WBk at h
  simp [World.frozen?, h]
theorem WBk.same (h : WBk u W line l) (e : u'.heap[W]? = u.heap[W]?) : WBk u' W line l := e.trans h
theorem WBk.later (h : WBk u W line l) (hb : Below u.heap.size u u') : WBk u' W line l := h.same (hb.block W h.lt)
theorem WBk.set (h : WBk u W line l) (l' : Int) : WBk (u.setCell ⟨W, 1, none⟩ (.int .i64 l')) W line l' := by
  unfold WBk
  rw [heap_set h]
  rfl
end
theorem gro_trans {u v v' : World} {W : Nat} (h : u.grownBy v (some W)) (h2 : v.grownBy v' (some W)) : u.grownBy v' (some W) :=
  ⟨h2.os.trans h.os, h2.tape.trans h.tape, h2.output.trans h.output, Nat.le_trans h.size h2.size, fun k hk hne => (h2.block k (Nat.lt_of_lt_of_le hk h.size) hne).trans (h.block k hk hne)⟩
theorem gro_new {u v v' : World} {W G : Nat} (h : u.grownBy v (some W)) (h2 : v.grownBy v' (some G)) (hG : u.heap.size ≤ G) : u.grownBy v' (some W) :=
  ⟨h2.os.trans h.os, h2.tape.trans h.tape, h2.output.trans h.output, Nat.le_trans h.size h2.size, fun k hk hne => (h2.block k (Nat.lt_of_lt_of_le hk h.size) (fun e => by cases e; omega)).trans (h.block k hk hne)⟩
theorem gro_later {u v v' : World} {W : Nat} (h : u.grownBy v (some W)) (h2 : Below v.heap.size v v') : u.grownBy v' (some W) :=
  ⟨h2.os.trans h.os, h2.tape.trans h.tape, h2.output.trans h.output, Nat.le_trans h.size h2.size, fun k hk hne => (h2.block k (Nat.lt_of_lt_of_le hk h.size)).trans (h.block k hk hne)⟩
theorem gro_set {u v : World} {W : Nat} (h : u.grownBy v (some W)) (i : Nat) (x : Value) : u.grownBy (v.setCell ⟨W, i, none⟩ x) (some W) :=
  gro_trans h ⟨rfl, rfl, rfl, by simp, fun k _ hk => Below.heap_setCell v ⟨W, i, none⟩ x k (fun e => hk (by rw [e]))⟩
theorem gro_below {u v : World} {W b : Nat} (h : u.grownBy v (some W)) (hb : b ≤ W) (hu : b ≤ u.heap.size) : Below b u v := ⟨h.os, h.tape, h.output, h.size, fun k hk => h.block k (by omega) (fun e => by cases e; omega)⟩
set_option maxHeartbeats 2000000 in
theorem lhas_any (s : Oct.S) (b : Nat) (w : World) (hb : b < 256) : Calls Tryz.prog 73 #[setV s, .int .u8 (b : Nat)] w fun e w' => e = .returned (.bool (s b)) ∧ Below w.heap.size w w' := by
  have kk : Below w.heap.size w (w.alloc (.cells #[.int .u64 (Oct.word s 0 : Nat), .int .u64 (Oct.word s 1 : Nat), .int .u64 (Oct.word s 2 : Nat), .int .u64 (Oct.word s 3 : Nat)] 28)) := (Below.refl _ _).alloc (Nat.le_refl _) _
  have HB : Hid (Below w.heap.size w (w.alloc (.cells #[.int .u64 (Oct.word s 0 : Nat), .int .u64 (Oct.word s 1 : Nat), .int .u64 (Oct.word s 2 : Nat), .int .u64 (Oct.word s 3 : Nat)] 28))) := kk
  have hsb : SB (w.alloc (.cells #[.int .u64 (Oct.word s 0 : Nat), .int .u64 (Oct.word s 1 : Nat), .int .u64 (Oct.word s 2 : Nat), .int .u64 (Oct.word s 3 : Nat)] 28)) w.heap.size s := sb_new w s
  obtain ⟨c0, c1, c2, c3⟩ := hsb.cells
  clear kk hsb
  unfold setV
  rcases quo4 hb with ⟨hn, hq⟩ | ⟨hn, hq⟩ | ⟨hn, hq⟩ | ⟨hn, hq⟩
  all_goals
    have HQ : Hid (_ = s b) := has_bit s b _ hn
    clear hn
    go_enter Tryz.func73, Tryz.ntmps73
    go_wp2
    go_ret
    exact ⟨ret_bool HQ.out, HB.out⟩
def JoinPost (w : World) (base g N c : Nat) (bs ms : List Bool) (e : Ending) (w' : World) : Prop := e = .returned (.tuple #[]) ∧ w.grownBy w' (some g) ∧ ∃ bs', RowB w' base (.slice (some ⟨g, 0, none⟩) N c) bs' ∧ ∀ j, bt bs' j ↔ bt bs j ∨ bt ms j
set_option maxRecDepth 4000 in
set_option maxHeartbeats 4000000 in
theorem ljoin_any {base g h N c ch : Nat} {bs ms : List Bool} (w : World) (hr : RowB w base (.slice (some ⟨g, 0, none⟩) N c) bs) (hm : BAt w h ms) (hl : ms.length = N) (hne : h ≠ g) (hN : N ≤ 1000000) : Calls Tryz.prog 75 #[.slice (some ⟨g, 0, none⟩) N c, .slice (some ⟨h, 0, none⟩) N ch] w (JoinPost w base g N c bs ms) := by
  have hbl : bs.length = N := hr.lt.2.1.symm
  have HR : Hid (RowB w base (.slice (some ⟨g, 0, none⟩) N c) bs) := hr
  have HM : Hid (BAt w h ms) := hm
  have HL : Hid (ms.length = N ∧ bs.length = N) := ⟨hl, hbl⟩
  have HNE : Hid (h ≠ g) := hne
  clear hr hm hl hbl hne
  go_enter Tryz.func75, Tryz.ntmps75
  go_wp2_with fail
  go_loopw [4] (fun i u => ∃ (k : Nat) (bk : List Bool), i = .int .i64 (k : Nat) ∧ k ≤ N ∧ Hid (RowB u base (.slice (some ⟨g, 0, none⟩) N c) bk) ∧ Hid (w.grownBy u (some g)) ∧ Hid (∀ j, bt bk j ↔ bt bs j ∨ (j < k ∧ bt ms j))) (fun i _ => N - (intOf i).toNat)
  case atStart => exact ⟨0, bs, rfl, Nat.zero_le _, HR, grown_rfl _ _, fun j => by simp⟩
  case round =>
    obtain ⟨k, bk, rfl, hk, HRk, HGk, HKk⟩ := hrel
    have hkl : bk.length = N := HRk.out.lt.2.1.symm
    by_cases hlt : k < N
    · have hlt' : (k : Int) < (N : Int) := by omega
      obtain ⟨m, hm⟩ : ∃ m, ms[k]? = some m := ⟨_, List.getElem?_eq_getElem (by rw [HL.out.1]; exact hlt)⟩
      obtain ⟨b, hb⟩ : ∃ b, bk[k]? = some b := ⟨_, List.getElem?_eq_getElem (by rw [hkl]; exact hlt)⟩
      have cm : wr.cell? ⟨h, k, none⟩ = some (.bool m) := by
        have h1 := HM.out k m hm
        exact (World.cell?_of_block (w := w) (HGk.out.block h (lt_of_cell h1) (fun e => by cases e; exact HNE.out rfl))).trans h1
      obtain ⟨cb, fb⟩ := HRk.out.cell hb
      obtain ⟨q, hq⟩ : ∃ q, (b || m) = q := ⟨_, rfl⟩
      have HS : Hid (∀ j, bt (bk.set k q) j ↔ bt bs j ∨ (j < k + 1 ∧ bt ms j)) := fun j => by
        by_cases e : j = k
        · subst e
          have h1 : bt (bk.set j q) j ↔ q = true := bt_of (List.getElem?_set_self (by omega))
          have h2 := HKk.out j
          rw [bt_of hb] at h2
          rw [h1, ← hq, Bool.or_eq_true, bt_of hm, h2]
          constructor
          · rintro ((h | ⟨h, _⟩) | h)
            · exact Or.inl h
            · omega
            · exact Or.inr ⟨by omega, h⟩
          · rintro (h | ⟨_, h⟩)
            · exact Or.inl (Or.inl h)
            · exact Or.inr h
        · have h1 : bt (bk.set k q) j ↔ bt bk j := by unfold bt; rw [List.getElem?_set_ne (fun h => e h.symm)]
          rw [h1, HKk.out j]
          constructor
          · rintro (h | ⟨h, h'⟩)
            · exact Or.inl h
            · exact Or.inr ⟨by omega, h'⟩
          · rintro (h | ⟨h, h'⟩)
            · exact Or.inl h
            · exact Or.inr ⟨by omega, h'⟩
      have HR2 : Hid (RowB (wr.setCell ⟨g, k, none⟩ (.bool q)) base (.slice (some ⟨g, 0, none⟩) N c) (bk.set k q)) := HRk.out.put k q
      have HG2 : Hid (w.grownBy (wr.setCell ⟨g, k, none⟩ (.bool q)) (some g)) := gro_set HGk.out k _
      clear hm hb hkl HRk HGk HKk
      cases b with
      | true =>
        have e : q = true := by rw [← hq]; rfl
        subst e
        clear hq
        go_wp2
        go_roundw
        case rel => exact ⟨k + 1, _, by go_num, by omega, HR2, HG2, HS⟩
        case measure => simp [intOf]; omega
      | false =>
        have e : q = m := by rw [← hq]; rfl
        subst e
        clear hq
        go_wp2
        go_roundw
        case rel => exact ⟨k + 1, _, by go_num, by omega, HR2, HG2, HS⟩
        case measure => simp [intOf]; omega
    · have hlt' : ¬ (k : Int) < (N : Int) := by omega
      have hkN : k = N := by omega
      have HE : Hid (∀ j, bt bk j ↔ bt bs j ∨ bt ms j) := fun j => by
        rw [HKk.out j, hkN]
        constructor
        · rintro (h | ⟨_, h⟩)
          · exact Or.inl h
          · exact Or.inr h
        · rintro (h | h)
          · exact Or.inl h
          · exact Or.inr ⟨by have := bt_lt h; have := HL.out.1; omega, h⟩
      clear hkN hkl HKk
      go_wp2
      go_end0
      exact ⟨rfl, HGk.out, bk, HRk.out, HE.out⟩
def Img (T : Nat → Nat → Prop) (fs bs : List Bool) : Prop := ∀ j, bt bs j ↔ ∃ i, bt fs i ∧ T i j
theorem bt_rep (n j : Nat) : ¬ bt (List.replicate n false) j := by
  unfold bt
  by_cases h : j < n
  · simp [h]
  · simp [h]
def EndsPost (u : World) (W N : Nat) (line : ByteArray) (t : Tn) (i : Nat) (l : Int) (e : Ending) (u' : World) : Prop := ∃ (g c : Nat) (bs : List Bool) (l' : Int), e = .returned (.slice (some ⟨g, 0, none⟩) N c) ∧ RowB u' u.heap.size (.slice (some ⟨g, 0, none⟩) N c) bs ∧ u.grownBy u' (some W) ∧ WBk u' W line l' ∧ l' < l ∧ (0 ≤ l → -(sc t : Int) ≤ l') ∧ (l < 0 → l' = l - 1) ∧ (0 ≤ l' → ∀ j, bt bs j ↔ Tk line t i j)
def EndsV (w0 : World) (W : Nat) (line : ByteArray) (t : Tn) (v : Nd) : Prop := ∀ (u : World) (i : Nat) (l : Int), Below w0.heap.size w0 u → WBk u W line l → i ≤ line.size → -1099511627776 ≤ l → l ≤ 20000 → Calls Tryz.prog 55 #[.pointer (some ⟨W, 0, none⟩), v.val, .int .i64 (i : Nat)] u (EndsPost u W (line.size + 1) line t i l)
def AllPost (u : World) (W N : Nat) (line : ByteArray) (t : Tn) (fs : List Bool) (l : Int) (e : Ending) (u' : World) : Prop := ∃ (g c : Nat) (bs : List Bool) (l' : Int), e = .returned (.slice (some ⟨g, 0, none⟩) N c) ∧ RowB u' u.heap.size (.slice (some ⟨g, 0, none⟩) N c) bs ∧ u.grownBy u' (some W) ∧ WBk u' W line l' ∧ l' ≤ l ∧ (0 ≤ l → -((sc t : Int) + 9) ≤ l') ∧ (l < 0 → l - 9 ≤ l') ∧ (0 ≤ l' → Img (Tk line t) fs bs)
set_option maxRecDepth 4000 in
set_option maxHeartbeats 8000000 in
theorem all_of {w0 : World} {W : Nat} {line : ByteArray} {t : Tn} {x : Nd} (hW : w0.heap.size ≤ W) (hl9 : line.size ≤ 8) (hV : EndsV w0 W line t x) (hsc : sc t ≤ 1000000000) (u : World) (gf cf : Nat) (fs : List Bool) (l : Int) (hlow : Below w0.heap.size w0 u) (hwb : WBk u W line l) (hfl : fs.length = line.size + 1) (hfs : BAt u gf fs) (hgf : gf ≠ W) (h1 : -1000000000000 ≤ l) (h2 : l ≤ 20000) :
    Calls Tryz.prog 74 #[.pointer (some ⟨W, 0, none⟩), x.val, .slice (some ⟨gf, 0, none⟩) (line.size + 1) cf] u (AllPost u W (line.size + 1) line t fs l) := by
  obtain ⟨N, hN⟩ : ∃ N, line.size + 1 = N := ⟨_, rfl⟩
  have HV : Hid (EndsV w0 W line t x) := hV
  rw [hN] at hfl ⊢
  have hNI : (line.size : Int) + 1 = (N : Nat) := by omega
  have hN9 : N ≤ 9 := by omega
  have HN : Hid (line.size + 1 = N) := hN
  have kk : Below u.heap.size u (u.alloc (.cells #[.int .i64 x.k, .int .u64 (Oct.word x.s 0 : Nat), .int .u64 (Oct.word x.s 1 : Nat), .int .u64 (Oct.word x.s 2 : Nat), .int .u64 (Oct.word x.s 3 : Nat), .slice x.a x.n x.c, .int .i64 x.mn, .int .i64 x.mx] 30)) := (Below.refl _ _).alloc (Nat.le_refl _) _
  have HNA : Hid (NB (u.alloc (.cells #[.int .i64 x.k, .int .u64 (Oct.word x.s 0 : Nat), .int .u64 (Oct.word x.s 1 : Nat), .int .u64 (Oct.word x.s 2 : Nat), .int .u64 (Oct.word x.s 3 : Nat), .slice x.a x.n x.c, .int .i64 x.mn, .int .i64 x.mx] 30)) u.heap.size x) := nb_new u x
  have HG : Hid (u.grownBy (u.alloc (.cells #[.int .i64 x.k, .int .u64 (Oct.word x.s 0 : Nat), .int .u64 (Oct.word x.s 1 : Nat), .int .u64 (Oct.word x.s 2 : Nat), .int .u64 (Oct.word x.s 3 : Nat), .slice x.a x.n x.c, .int .i64 x.mn, .int .i64 x.mx] 30)) (some W)) := gro_later (grown_rfl _ _) kk
  have HWB : Hid (WBk (u.alloc (.cells #[.int .i64 x.k, .int .u64 (Oct.word x.s 0 : Nat), .int .u64 (Oct.word x.s 1 : Nat), .int .u64 (Oct.word x.s 2 : Nat), .int .u64 (Oct.word x.s 3 : Nat), .slice x.a x.n x.c, .int .i64 x.mn, .int .i64 x.mx] 30)) W line l) := hwb.later kk
  have HF : Hid (BAt (u.alloc (.cells #[.int .i64 x.k, .int .u64 (Oct.word x.s 0 : Nat), .int .u64 (Oct.word x.s 1 : Nat), .int .u64 (Oct.word x.s 2 : Nat), .int .u64 (Oct.word x.s 3 : Nat), .slice x.a x.n x.c, .int .i64 x.mn, .int .i64 x.mx] 30)) gf fs) := hfs.later kk
  have HGF : Hid (gf < u.heap.size ∧ W < u.heap.size) := ⟨lt_of_cell (hfs 0 _ (List.getElem?_eq_getElem (by omega))), hwb.lt⟩
  have HUS : Hid (u.heap.size ≤ (u.alloc (.cells #[.int .i64 x.k, .int .u64 (Oct.word x.s 0 : Nat), .int .u64 (Oct.word x.s 1 : Nat), .int .u64 (Oct.word x.s 2 : Nat), .int .u64 (Oct.word x.s 3 : Nat), .slice x.a x.n x.c, .int .i64 x.mn, .int .i64 x.mx] 30)).heap.size) := kk.size
  obtain ⟨w1, hw1⟩ : ∃ w1, u.alloc (.cells #[.int .i64 x.k, .int .u64 (Oct.word x.s 0 : Nat), .int .u64 (Oct.word x.s 1 : Nat), .int .u64 (Oct.word x.s 2 : Nat), .int .u64 (Oct.word x.s 3 : Nat), .slice x.a x.n x.c, .int .i64 x.mn, .int .i64 x.mx] 30) = w1 := ⟨_, rfl⟩
  rw [hw1] at HNA HG HWB HF HUS
  obtain ⟨A, hA⟩ : ∃ A, u.heap.size = A := ⟨_, rfl⟩
  rw [hA] at HNA
  have HW1 : Hid (u.alloc (.cells #[.int .i64 x.k, .int .u64 (Oct.word x.s 0 : Nat), .int .u64 (Oct.word x.s 1 : Nat), .int .u64 (Oct.word x.s 2 : Nat), .int .u64 (Oct.word x.s 3 : Nat), .slice x.a x.n x.c, .int .i64 x.mn, .int .i64 x.mx] 30) = w1) := hw1
  have HAA : Hid (u.heap.size = A) := hA
  have HLW : Hid (Below w0.heap.size w0 u ∧ w0.heap.size ≤ W) := ⟨hlow, hW⟩
  have HFL : Hid (fs.length = N) := hfl
  have HGW : Hid (gf ≠ W) := hgf
  clear hw1 hA hlow kk hfs hfl hwb hgf hW hV
  obtain ⟨xk, xs, xa, xn, xc, xmn, xmx⟩ := x
  unfold Nd.val
  simp only at HW1 HNA ⊢
  go_enter Tryz.func74, Tryz.ntmps74
  go_upto_region 1 with fail
  rw [HW1.out, HAA.out]
  clear HW1
  obtain ⟨k0, k1⟩ := HWB.out.cells
  go_upto_region 2 with (first | (refine wpList_make_bool rfl _ _ rfl u.heap.size N HUS.out (by show _ = Value.int .i64 ((N : Nat) : Int); rw [← hNI]; rfl) (by show _ = Value.int .i64 ((N : Nat) : Int); rw [← hNI]; rfl) (by omega) ?_; intro w2 hr2 hb2; have HR2 : Hid (RowB w2 u.heap.size (.slice (some ⟨w1.heap.size, 0, none⟩) N N) (List.replicate N false)) := hr2; have HK2 : Hid (Below w1.heap.size w1 w2) := hb2; clear hr2 hb2) | fail)
  clear k0 k1
  obtain ⟨G, hG⟩ : ∃ G, w1.heap.size = G := ⟨_, rfl⟩
  rw [hG] at HR2 ⊢
  have HAG : Hid (A < G ∧ gf < A ∧ W < A ∧ u.heap.size ≤ G) := by have h1 := HNA.out.lt; have h2 := HGF.out; have h3 := HAA.out; exact ⟨by omega, by omega, by omega, by omega⟩
  have HNA2 : Hid (NB w2 A ⟨xk, xs, xa, xn, xc, xmn, xmx⟩) := HNA.out.later HK2.out
  have HG2 : Hid (u.grownBy w2 (some W)) := gro_later HG.out HK2.out
  have HF2 : Hid (BAt w2 gf fs) := HF.out.later HK2.out
  have HWB2 : Hid (WBk w2 W line l) := HWB.out.later HK2.out
  clear hG HNA HG HF HK2 HWB HUS HGF
  go_wp2_with fail
  go_loopw [8] (fun i v => ∃ (k : Nat) (bk : List Bool) (lk : Int), i = .int .i64 (k : Nat) ∧ k ≤ N ∧ Hid (RowB v u.heap.size (.slice (some ⟨G, 0, none⟩) N N) bk) ∧ Hid (u.grownBy v (some W)) ∧ Hid (NB v A ⟨xk, xs, xa, xn, xc, xmn, xmx⟩) ∧ Hid (BAt v gf fs) ∧ Hid (WBk v W line lk) ∧ Hid (lk ≤ l ∧ (0 ≤ l → -((sc t : Int) + k) ≤ lk) ∧ (l < 0 → l - k ≤ lk)) ∧ Hid (0 ≤ lk → ∀ j, bt bk j ↔ ∃ i, i < k ∧ bt fs i ∧ Tk line t i j)) (fun i _ => N - (intOf i).toNat)
  case atStart => exact ⟨0, _, l, rfl, Nat.zero_le _, HR2, HG2, HNA2, HF2, HWB2, ⟨Int.le_refl _, fun _ => by omega, fun _ => by omega⟩, fun _ j => ⟨fun h => absurd h (bt_rep N j), fun ⟨i, h, _⟩ => by omega⟩⟩
  case round =>
    clear HR2 HG2 HNA2 HF2 HWB2
    obtain ⟨k, bk, lk, rfl, hk, HRk, HGk, HNk, HFk, HWk, HLk, HIk⟩ := hrel
    by_cases hlt : k < N
    · have hlt' : (k : Int) < (N : Int) := by omega
      obtain ⟨p, hp⟩ : ∃ p, fs[k]? = some p := ⟨_, List.getElem?_eq_getElem (by rw [HFL.out]; exact hlt)⟩
      have cp := HFk.out k p hp
      have HP : Hid (fs[k]? = some p) := hp
      clear hp
      cases p with
      | false =>
        have HI2 : Hid (0 ≤ lk → ∀ j, bt bk j ↔ ∃ i, i < k + 1 ∧ bt fs i ∧ Tk line t i j) := fun h0 j => by
          rw [HIk.out h0 j]
          constructor
          · rintro ⟨i, h1, h2⟩; exact ⟨i, by omega, h2⟩
          · rintro ⟨i, h1, h2, h3⟩
            by_cases e : i = k
            · subst e
              have := (bt_of HP.out).1 h2
              cases this
            · exact ⟨i, by omega, h2, h3⟩
        have HL2 : Hid (lk ≤ l ∧ (0 ≤ l → -((sc t : Int) + (k + 1 : Nat)) ≤ lk) ∧ (l < 0 → l - (k + 1 : Nat) ≤ lk)) := ⟨HLk.out.1, fun h => by have := HLk.out.2.1 h; omega, fun h => by have := HLk.out.2.2 h; omega⟩
        go_wp2
        go_roundw
        case rel => exact ⟨k + 1, bk, lk, by go_num, by omega, HRk, HGk, HNk, HFk, HWk, HL2, HI2⟩
        case measure => simp [intOf]; omega
      | true =>
        have hks : k ≤ line.size := by have := HN.out; omega
        have hlk1 : -1099511627776 ≤ lk := by
          have h3 := HLk.out
          by_cases h0 : 0 ≤ l
          · have := h3.2.1 h0; omega
          · have := h3.2.2 (by omega); omega
        have HEC : Hid (Calls Tryz.prog 55 #[.pointer (some ⟨W, 0, none⟩), Nd.val ⟨xk, xs, xa, xn, xc, xmn, xmx⟩, .int .i64 (k : Nat)] wr (EndsPost wr W N line t k lk)) := by
          have h := HV.out wr k lk (HLW.out.1.trans (gro_below HGk.out HLW.out.2 HLW.out.1.size)) HWk.out hks hlk1 (by have := HLk.out.1; omega)
          rw [HN.out] at h
          exact h
        obtain ⟨y0, y1, y2, y3, y4, y5, y6, y7⟩ := HNk.out.cells
        simp only at y0 y1 y2 y3 y4 y5 y6 y7
        unfold Nd.val at HEC
        simp only at HEC
        clear hlk1
        go_wp2_with fail
        refine HEC.out.mono ?_
        rintro e v3 ⟨g3, c3, b3, l3, rfl, hr3, hg3, hw3, hl3, hlo3, hneg3, hex3⟩
        have HR3 : Hid (RowB v3 wr.heap.size (.slice (some ⟨g3, 0, none⟩) N c3) b3) := hr3
        have hWA := HAG.out
        have hgl := HRk.out.lt.1
        have HRo : Hid (RowB v3 u.heap.size (.slice (some ⟨G, 0, none⟩) N N) bk) := HRk.out.same (hg3.block G hgl (fun e => by cases e; omega))
        have HG3 : Hid (u.grownBy v3 (some W)) := gro_trans HGk.out hg3
        have HN3 : Hid (NB v3 A ⟨xk, xs, xa, xn, xc, xmn, xmx⟩) := (hg3.block A HNk.out.lt (fun e => by cases e; omega)).trans HNk.out
        have hgfl : gf < wr.heap.size := lt_of_cell cp
        have HF3 : Hid (BAt v3 gf fs) := HFk.out.same (hg3.block gf hgfl (fun e => by cases e; exact HGW.out rfl))
        have HW3 : Hid (WBk v3 W line l3) := hw3
        have HL3 : Hid (l3 ≤ l ∧ (0 ≤ l → -((sc t : Int) + (k + 1 : Nat)) ≤ l3) ∧ (l < 0 → l - (k + 1 : Nat) ≤ l3)) := by
          have h3 := HLk.out
          refine ⟨by omega, fun h0 => ?_, fun h0 => ?_⟩
          · by_cases h4 : 0 ≤ lk
            · have := hlo3 h4; omega
            · have := hneg3 (by omega); have := h3.2.1 h0; omega
          · have := hneg3 (by omega); have := h3.2.2 h0; omega
        have HX3 : Hid (0 ≤ l3 → (∀ j, bt b3 j ↔ Tk line t k j) ∧ 0 ≤ lk) := fun h0 => ⟨hex3 h0, by omega⟩
        have hne : g3 ≠ G := by
          have := hr3.lt.2.2
          omega
        have HJ : Hid (Calls Tryz.prog 75 #[.slice (some ⟨G, 0, none⟩) N N, .slice (some ⟨g3, 0, none⟩) N c3] v3 (JoinPost v3 u.heap.size G N N bk b3)) := ljoin_any v3 HRo.out HR3.out.bat hr3.lt.2.1.symm hne (by omega)
        clear hr3 hg3 hw3 hl3 hlo3 hneg3 hex3 hWA hgl hgfl hne HEC HRk HGk HNk HFk HWk HLk y0 y1 y2 y3 y4 y5 y6 y7 cp
        go_wp2_with fail
        refine HJ.out.mono ?_
        rintro e v4 ⟨rfl, hg4, b4, hr4, hj4⟩
        have hWA := HAG.out
        have HR4 : Hid (RowB v4 u.heap.size (.slice (some ⟨G, 0, none⟩) N N) b4) := hr4
        have HG4 : Hid (u.grownBy v4 (some W)) := gro_new HG3.out hg4 hWA.2.2.2
        have HN4 : Hid (NB v4 A ⟨xk, xs, xa, xn, xc, xmn, xmx⟩) := (hg4.block A HN3.out.lt (fun e => by cases e; omega)).trans HN3.out
        have hgf3 : gf < v3.heap.size := lt_of_cell (HF3.out k true HP.out)
        have HF4 : Hid (BAt v4 gf fs) := HF3.out.same (hg4.block gf hgf3 (fun e => by cases e; omega))
        have HW4 : Hid (WBk v4 W line l3) := HW3.out.same (hg4.block W HW3.out.lt (fun e => by cases e; omega))
        have HI4 : Hid (0 ≤ l3 → ∀ j, bt b4 j ↔ ∃ i, i < k + 1 ∧ bt fs i ∧ Tk line t i j) := fun h0 j => by
          obtain ⟨a1, a2⟩ := HX3.out h0
          rw [hj4 j, HIk.out a2 j, a1 j]
          constructor
          · rintro (⟨i, h1, h2⟩ | h)
            · exact ⟨i, by omega, h2⟩
            · exact ⟨k, by omega, (bt_of HP.out).2 rfl, h⟩
          · rintro ⟨i, h1, h2, h3⟩
            by_cases e : i = k
            · subst e; exact Or.inr h3
            · exact Or.inl ⟨i, by omega, h2, h3⟩
        clear hr4 hg4 hj4 hWA hgf3 HJ HR3 HRo HG3 HN3 HF3 HW3 HX3 HIk
        go_wp2
        go_roundw
        case rel => exact ⟨k + 1, b4, l3, by go_num, by omega, HR4, HG4, HN4, HF4, HW4, HL3, HI4⟩
        case measure => simp [intOf]; omega
    · have hlt' : ¬ (k : Int) < (N : Int) := by omega
      have hkN : k = N := by omega
      have HE : Hid (AllPost u W N line t fs l (.returned (.slice (some ⟨G, 0, none⟩) N N)) wr) := by
        refine ⟨G, N, bk, lk, rfl, HRk.out, HGk.out, HWk.out, HLk.out.1, fun h => ?_, fun h => ?_, fun h j => ?_⟩
        · have := HLk.out.2.1 h; omega
        · have := HLk.out.2.2 h; omega
        · rw [HIk.out h j, hkN]
          constructor
          · rintro ⟨i, _, h2, h3⟩; exact ⟨i, h2, h3⟩
          · rintro ⟨i, h2, h3⟩; exact ⟨i, by have := bt_lt h2; have := HFL.out; omega, h2, h3⟩
      clear hkN
      go_wp2
      go_ret
      exact HE.out
theorem sc_mk (k : Int) (s : Oct.S) (subs : List Tn) (mn mx : Int) : sc (.mk k s subs mn mx) = 1 + sc.scs subs := by rw [sc]
theorem scs_snoc : ∀ (ts : List Tn) (t : Tn), sc.scs (ts ++ [t]) = sc.scs ts + sc t + 10
  | [], t => by simp [sc.scs]
  | u :: ts, t => by
    have := scs_snoc ts t
    simp only [List.cons_append, sc.scs, this]
    omega
theorem take_one {subs : List Tn} {k : Nat} {t : Tn} (h : subs[k]? = some t) : subs.take (k + 1) = subs.take k ++ [t] := by rw [List.take_add_one, h]; rfl
theorem scs_take {subs : List Tn} {k : Nat} {t : Tn} (h : subs[k]? = some t) : sc.scs (subs.take (k + 1)) = sc.scs (subs.take k) + sc t + 10 := by rw [take_one h, scs_snoc]
theorem scs_app : ∀ (ts us : List Tn), sc.scs (ts ++ us) = sc.scs ts + sc.scs us
  | [], us => by simp [sc.scs]
  | u :: ts, us => by
    have := scs_app ts us
    simp only [List.cons_append, sc.scs, this]
    omega
theorem scs_le {subs : List Tn} (k : Nat) : sc.scs (subs.take k) ≤ sc.scs subs := by
  have h := scs_app (subs.take k) (subs.drop k)
  rw [List.take_append_drop] at h
  omega
theorem tkS_snoc {line : ByteArray} : ∀ (ts : List Tn) (t : Tn) (i j : Nat), TkS line (ts ++ [t]) i j ↔ ∃ q, TkS line ts i q ∧ Tk line t q j
  | [], t, i, j => by
    simp only [List.nil_append, TkS]
    constructor
    · rintro ⟨q, h1, h2⟩; exact ⟨i, rfl, by rw [h2]; exact h1⟩
    · rintro ⟨q, h1, h2⟩; exact ⟨j, by rw [← h1]; exact h2, rfl⟩
  | u :: ts, t, i, j => by
    simp only [List.cons_append, TkS]
    constructor
    · rintro ⟨q, h1, h2⟩
      obtain ⟨q2, h3, h4⟩ := (tkS_snoc ts t q j).1 h2
      exact ⟨q2, ⟨q, h1, h3⟩, h4⟩
    · rintro ⟨q2, ⟨q, h1, h3⟩, h4⟩
      exact ⟨q, h1, (tkS_snoc ts t q j).2 ⟨q2, h3, h4⟩⟩
theorem tkS_take {line : ByteArray} {subs : List Tn} {k : Nat} {t : Tn} (h : subs[k]? = some t) {i j : Nat} : TkS line (subs.take (k + 1)) i j ↔ ∃ q, TkS line (subs.take k) i q ∧ Tk line t q j := by rw [take_one h, tkS_snoc]
theorem tkA_snoc {line : ByteArray} : ∀ (ts : List Tn) (t : Tn) (i j : Nat), TkA line (ts ++ [t]) i j ↔ TkA line ts i j ∨ Tk line t i j
  | [], t, i, j => by simp only [List.nil_append, TkA]; exact ⟨fun h => h.elim Or.inr Or.inl, fun h => h.elim Or.inr Or.inl⟩
  | u :: ts, t, i, j => by
    simp only [List.cons_append, TkA, tkA_snoc ts t i j, or_assoc]
theorem tkA_take {line : ByteArray} {subs : List Tn} {k : Nat} {t : Tn} (h : subs[k]? = some t) {i j : Nat} : TkA line (subs.take (k + 1)) i j ↔ TkA line (subs.take k) i j ∨ Tk line t i j := by rw [take_one h, tkA_snoc]
theorem grown_one (w : World) (G i : Nat) (x : Value) : w.grownBy (w.setCell ⟨G, i, none⟩ x) (some G) := gro_set (grown_rfl _ _) i x
theorem bt_setf (N i j : Nat) : ¬ bt ((List.replicate N false).set i false) j := by
  unfold bt
  by_cases e : i = j
  · subst e
    rw [List.getElem?_set]
    simp
    split <;> simp
  · rw [List.getElem?_set_ne e]
    exact bt_rep N j
theorem rowB_lowS {w : World} {base b g n c : Nat} {bs : List Bool} (h : RowB w base (.slice (some ⟨g, 0, none⟩) n c) bs) (hb : b ≤ base) : RowB w b (.slice (some ⟨g, 0, none⟩) n c) bs := by
  refine ⟨h.1, ?_⟩
  rcases h.2 with h6 | ⟨g', cap, cur, hv, hBg, rest⟩
  · exact Or.inl h6
  · exact Or.inr ⟨g', cap, cur, hv, Nat.le_trans hb hBg, rest⟩
end Go.Proofs.YtmjnobdlgbojoaaGreatDoor
