/- The contract of heronlaw01.known: it answers true, and makes memory alone. -/
import Derived.Test.YtejjnhaadoafpaaDoorWalks
import Derived.Lib.SlBytesConst
namespace Go.Proofs.YtejjnhaadoafpaaDoor
open Go.RowKit

theorem tab_below {B : Nat} {w w' : World} (h : Below B w w') (hB : 0 < B) (hT : Tab w) : Tab w' := fun i hi => by
  rw [h.cell (p := ⟨0, i, none⟩) hB]; exact hT i hi
theorem tab_alloc {w : World} (o : Obj) (h0 : 0 < w.heap.size) (hT : Tab w) : Tab (w.alloc o) :=
  tab_below ((Below.refl w.heap.size w).alloc (Nat.le_refl _) o) h0 hT
theorem bytesAt_below {B : Nat} {w w' : World} {a : Option Addr} {zs : List Int} (h : Below B w w') (hB : ∀ p, a = some p → p.block < B) (hT : BytesAt w a zs) : BytesAt w' a zs := by
  rcases hT with h0 | ⟨b, off, rfl, hc⟩
  · exact Or.inl h0
  · exact Or.inr ⟨b, off, rfl, fun k hk => by rw [h.cell (p := ⟨b, off + k, none⟩) (show (⟨b, off + k, none⟩ : Addr).block < B from hB ⟨b, off, none⟩ rfl)]; exact hc k hk⟩
theorem bytesAt_new (w : World) (zs : List Int) (t : TypeId) (fr : Nat × Nat) : BytesAt (w.alloc (.cells (zs.map (fun z => Value.int .u8 z)).toArray t fr)) (some ⟨w.heap.size, 0, none⟩) zs := by
  refine Or.inr ⟨_, 0, rfl, fun k hk => ?_⟩
  rw [World.cell?_alloc_mark]
  simp [hk]

theorem c9 : Crc.more 0 [49, 50, 51, 52, 53, 54, 55, 56, 57] = 3421780262 := by decide +kernel
theorem c45 : Crc.more (Crc.more 0 [49, 50, 51, 52]) [53, 54, 55, 56, 57] = 3421780262 := by decide +kernel
theorem bs_lit {l : List Int} (h : l.all (fun z => decide (0 ≤ z ∧ z < 256)) = true) : Crc.Bs l := fun z hz => of_decide_eq_true (List.all_eq_true.1 h z hz)

theorem all_any (a : Option Addr) (cap : Nat) (ps : List Piece) (w : World) (hT : Tab w) (hn : ps.length ≤ maxLen)
    (hc : PiecesAt w a ps) (hok : ∀ p ∈ ps, p.Ok w) :
    Calls Tryd.prog 10 #[.slice a ps.length cap] w fun e w' => e = .returned (.int .u32 (Crc.more 0 (cat ps) : Nat)) ∧ w' = w := by
  rcases hc with rfl | ⟨b, off, rfl, hc⟩
  · have HT : Hid (Tab w) := hT
    clear hT hn hok
    go_enter Tryd.func10, Tryd.ntmps10
    go_wp2_with fail
    refine (of_any none 0 [] _ HT.out (by decide) (Or.inl rfl) (fun z hz => by cases hz)).mono ?_
    rintro e w' ⟨rfl, rfl⟩
    rw [Crc.more_nil]
    go_wp2
    go_loop [3, 9] (fun n i => i = .int .i64 0 ∧ n = .int .u32 0) (fun _ _ => 0)
    case atStart => exact ⟨rfl, rfl⟩
    case round =>
      obtain ⟨rfl, rfl⟩ := hrel
      go_wp2
      go_ret
      exact ⟨ret_int (by simp [cat, Crc.more_nil]), rfl⟩
  · exact all_core b off cap ps w hT hn hc hok

theorem piecesAt_new (w : World) (ps : List Piece) (t : TypeId) (fr : Nat × Nat) : PiecesAt (w.alloc (.cells (ps.map Piece.val).toArray t fr)) (some ⟨w.heap.size, 0, none⟩) ps := by
  refine Or.inr ⟨_, 0, rfl, fun k hk => ?_⟩
  rw [World.cell?_alloc_mark]
  simp [hk]
theorem ok_below {B : Nat} {w w' : World} {p : Piece} (h : Below B w w') (hB : ∀ x, p.a = some x → x.block < B) (hp : p.Ok w) : p.Ok w' :=
  ⟨hp.1, bytesAt_below h hB hp.2.1, hp.2.2⟩
theorem ok_alloc {w : World} {p : Piece} (o : Obj) (hB : ∀ x, p.a = some x → x.block < w.heap.size) (hp : p.Ok w) : p.Ok (w.alloc o) :=
  ok_below ((Below.refl w.heap.size w).alloc (Nat.le_refl _) o) hB hp
theorem ok_new (w : World) (zs : List Int) (cap : Nat) (t : TypeId) (fr : Nat × Nat) (hl : zs.length ≤ maxLen) (hb : Crc.Bs zs) : Piece.Ok (w.alloc (.cells (zs.map (fun z => Value.int .u8 z)).toArray t fr)) ⟨some ⟨w.heap.size, 0, none⟩, cap, zs⟩ :=
  ⟨hl, bytesAt_new w zs t fr, hb⟩
theorem ok_nil (w : World) : Piece.nil.Ok w := ⟨Nat.zero_le _, Or.inl rfl, fun z hz => by cases hz⟩

theorem all_lit (w : World) (hT : Tab w) (h0 : 0 < w.heap.size) :
    Calls Tryd.prog 10 #[.slice (some ⟨w.heap.size + 1 + 1, 0, none⟩) 3 3]
      (((w.alloc (.cells #[.int .u8 49, .int .u8 50] 5 (2, 3))).alloc (.cells #[.int .u8 51, .int .u8 52, .int .u8 53, .int .u8 54, .int .u8 55, .int .u8 56, .int .u8 57] 5 (7, 8))).alloc
        (.cells #[.slice (some ⟨w.heap.size, 0, none⟩) 2 2, .slice none 0 0, .slice (some ⟨w.heap.size + 1, 0, none⟩) 7 7] 24)) fun e w' => e = .returned (.int .u32 3421780262) ∧ Below w.heap.size w w' := by
  have hs1 : (w.alloc (.cells #[.int .u8 49, .int .u8 50] 5 (2, 3))).heap.size = w.heap.size + 1 := by simp
  have hs2 : ((w.alloc (.cells #[.int .u8 49, .int .u8 50] 5 (2, 3))).alloc (.cells #[.int .u8 51, .int .u8 52, .int .u8 53, .int .u8 54, .int .u8 55, .int .u8 56, .int .u8 57] 5 (7, 8))).heap.size = w.heap.size + 1 + 1 := by simp
  have k1 := ok_new w [49, 50] 2 5 (2, 3) (by decide) (bs_lit (by decide))
  have k2 := ok_new (w.alloc (.cells #[.int .u8 49, .int .u8 50] 5 (2, 3))) [51, 52, 53, 54, 55, 56, 57] 7 5 (7, 8) (by decide) (bs_lit (by decide))
  rw [hs1] at k2
  have pa := piecesAt_new ((w.alloc (.cells #[.int .u8 49, .int .u8 50] 5 (2, 3))).alloc (.cells #[.int .u8 51, .int .u8 52, .int .u8 53, .int .u8 54, .int .u8 55, .int .u8 56, .int .u8 57] 5 (7, 8)))
    [⟨some ⟨w.heap.size, 0, none⟩, 2, [49, 50]⟩, Piece.nil, ⟨some ⟨w.heap.size + 1, 0, none⟩, 7, [51, 52, 53, 54, 55, 56, 57]⟩] 24 (0, 0)
  rw [hs2] at pa
  refine (all_any _ 3 [⟨some ⟨w.heap.size, 0, none⟩, 2, [49, 50]⟩, Piece.nil, ⟨some ⟨w.heap.size + 1, 0, none⟩, 7, [51, 52, 53, 54, 55, 56, 57]⟩] _
    (tab_alloc _ (by rw [hs2]; omega) (tab_alloc _ (by rw [hs1]; omega) (tab_alloc _ h0 hT))) (by simp [maxLen]) pa ?_).mono ?_
  · intro p hp
    simp only [List.mem_cons, List.not_mem_nil, or_false] at hp
    rcases hp with rfl | rfl | rfl
    · refine ok_alloc _ (fun x hx => ?_) (ok_alloc _ (fun x hx => ?_) k1)
      · cases hx; rw [hs2]; show w.heap.size < _; omega
      · cases hx; rw [hs1]; show w.heap.size < _; omega
    · exact ok_nil _
    · refine ok_alloc _ (fun x hx => ?_) k2
      cases hx; rw [hs2]; show w.heap.size + 1 < _; omega
  · rintro e w' ⟨rfl, rfl⟩
    refine ⟨ret_int (congrArg _ c9), ?_⟩
    exact (((Below.refl _ _).alloc (Nat.le_refl _) _).alloc (by rw [hs1]; omega) _).alloc (by rw [hs2]; omega) _

theorem conv24 (w : World) (m : Nat) (C : Array Value) (n c : Nat) (hm : m = w.heap.size) : (convert 24 24 (.slice (some ⟨m, 0, none⟩) n c)).run Tryd.prog (w.alloc (.cells C 5)) = .ok (.slice (some ⟨m, 0, none⟩) n c) (w.alloc (.cells C 5 (C.size, C.size + 1))) := by
  subst hm; exact Lib.run_convert_bytes_const (P := Tryd.prog) w 24 5 C n c Tryd.underlying24 Tryd.underlying5

set_option maxHeartbeats 400000 in
theorem known_any (w : World) (hT : Tab w) (h0 : 0 < w.heap.size) :
    Calls Tryd.prog 7 #[] w fun e w' => e = .returned (.bool true) ∧ Below w.heap.size w w' := by
  have HT : Hid (Tab w) := hT
  clear hT
  have kc := conv24
  go_enter Tryd.func7, Tryd.ntmps7
  go_wp2_with fail
  refine (of_any _ 9 [49, 50, 51, 52, 53, 54, 55, 56, 57] _ (tab_alloc _ h0 HT.out) (by decide) (bytesAt_new w [49, 50, 51, 52, 53, 54, 55, 56, 57] 5 _) (bs_lit (by decide))).mono ?_
  rintro e w1 ⟨rfl, hw1⟩
  rw [c9]
  have hb1 : Below w.heap.size w w1 := by rw [hw1]; exact (Below.refl _ _).alloc (Nat.le_refl _) _
  have HB1 : Hid (Below w.heap.size w w1) := hb1
  have HT1 : Hid (Tab w1) := tab_below hb1 h0 HT.out
  have h01 : 0 < w1.heap.size := Nat.lt_of_lt_of_le h0 hb1.size
  clear hw1 hb1 HT
  go_wp2_with fail
  refine (of_any _ 4 [49, 50, 51, 52] _ (tab_alloc _ h01 HT1.out) (by decide) (bytesAt_new w1 [49, 50, 51, 52] 5 _) (bs_lit (by decide))).mono ?_
  rintro e w2 ⟨rfl, hw2⟩
  have hb2 : Below w1.heap.size w1 w2 := by rw [hw2]; exact (Below.refl _ _).alloc (Nat.le_refl _) _
  have HB2 : Hid (Below w.heap.size w w2) := HB1.out.trans (hb2.mono HB1.out.size)
  have HT2 : Hid (Tab w2) := tab_below hb2 h01 HT1.out
  have h02 : 0 < w2.heap.size := Nat.lt_of_lt_of_le h01 hb2.size
  have hl4 : Crc.more 0 [49, 50, 51, 52] < 4294967296 := Crc.more_lt (by decide) (bs_lit (by decide))
  clear hw2 hb2 HT1 HB1
  go_wp2_with fail
  refine (more_any _ _ 5 [53, 54, 55, 56, 57] _ hl4 (tab_alloc _ h02 HT2.out) (by decide) (bytesAt_new w2 [53, 54, 55, 56, 57] 5 _) (bs_lit (by decide))).mono ?_
  rintro e w3 ⟨rfl, hw3⟩
  rw [c45]
  have hb3 : Below w2.heap.size w2 w3 := by rw [hw3]; exact (Below.refl _ _).alloc (Nat.le_refl _) _
  have HB3 : Hid (Below w.heap.size w w3) := HB2.out.trans (hb3.mono HB2.out.size)
  have HT3 : Hid (Tab w3) := tab_below hb3 h02 HT2.out
  have h03 : 0 < w3.heap.size := Nat.lt_of_lt_of_le h02 hb3.size
  clear hw3 hb3 HT2 HB2 hl4
  go_wp2_with fail
  refine (all_lit w3 HT3.out h03).mono ?_
  rintro e w4 ⟨rfl, hw4⟩
  have HB4 : Hid (Below w.heap.size w w4) := HB3.out.trans (hw4.mono HB3.out.size)
  clear hw4 HT3 HB3
  go_wp2
  go_ret
  exact ⟨rfl, HB4.out⟩
end Go.Proofs.YtejjnhaadoafpaaDoor
