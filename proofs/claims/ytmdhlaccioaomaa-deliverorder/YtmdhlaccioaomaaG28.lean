/- heronlaw20.fixed: what the document tells (typed by gen/dlfx.py). -/
import Derived.Test.YtmdhlaccioaomaaG27
import Derived.Test.YtmdhlaccioaomaaG20
namespace Go.Proofs.Ytmdhlaccioaomaa
open Go.RowKit Go.Maps Rg Bo
attribute [local go_sem ↓] Go.wp_at_zero Go.wp_at_succ loadAl_eq storeAl_eq
attribute [local go_sem] gd_al neq_same eql_same

def aA : Al := ⟨0, 0, 0, 0, 0, 0, 0, 0, 0, 0, ⟨#[97]⟩, 0⟩
def aB : Al := ⟨0, 0, 0, 0, 0, 0, 0, 0, 0, 0, ⟨#[98]⟩, 0⟩
structure FS (w : World) (D B R : Nat) (As : List Nat) (x : De) (u : World) : Prop where
  d : ∃ f, DlAt u D B R 2 f 3 10 4 x
  b : ∀ A ∈ As, AlB u A aA ∧ A ≠ R
  lo : Below w.heap.size w u
  ge : w.heap.size ≤ D ∧ w.heap.size ≤ B ∧ w.heap.size ≤ R
section
variable {w u v : World} {D B R : Nat} {As : List Nat} {x x' : De}
theorem FS.later (h : FS w D B R As x u) (hb : Below u.heap.size u v) : FS w D B R As x v := by
  obtain ⟨⟨f, hd⟩, h2, h3, h4⟩ := h
  exact ⟨⟨f, hd.later hb⟩, fun A hA => ⟨(h2 A hA).1.later hb, (h2 A hA).2⟩, below_step h3 hb, h4⟩
theorem FS.call (h : FS w D B R As x u) (h2 : DTo D B R 2 3 10 4 x' u v) : FS w D B R As x' v := by
  obtain ⟨⟨f, hd⟩, hb, hlo, g1, g2, g3⟩ := h
  refine ⟨h2.1, fun A hA => ⟨(hb A hA).1.same (h2.2.block A (hb A hA).1.lt (fun e => ?_)), (hb A hA).2⟩, ⟨h2.2.os.trans hlo.os, h2.2.tape.trans hlo.tape, h2.2.output.trans hlo.output, Nat.le_trans hlo.size h2.2.size, fun k hk => (h2.2.block k (Nat.lt_of_lt_of_le hk hlo.size) (fun e => by rcases e with e | e | e <;> omega)).trans (hlo.block k hk)⟩, g1, g2, g3⟩
  have ht := (hb A hA).1.ty
  rcases e with e | e | e
  · rw [e] at ht; exact absurd (TyB.ne ht hd.d.ty) (by decide)
  · rw [e] at ht; exact absurd (TyB.ne ht hd.r.b.ty) (by decide)
  · exact (hb A hA).2 e
/-- a new box of the alert -/
theorem FS.box (h : FS w D B R As x u) {A : Nat} (hA : u.heap.size ≤ A) (hb : Below u.heap.size u v) (ha : AlB v A aA) : FS w D B R (A :: As) x v := by
  obtain ⟨⟨f, hd⟩, h2, h3, h4⟩ := h
  refine ⟨⟨f, hd.later hb⟩, fun A' hA' => ?_, below_step h3 hb, h4⟩
  rcases List.mem_cons.1 hA' with e | e
  · subst e
    exact ⟨ha, by have := hd.r.r.lt; omega⟩
  · exact ⟨(h2 A' e).1.later hb, (h2 A' e).2⟩
end
def x1 : De := ⟨[aA], false, 0, 0⟩
def x2 : De := ⟨[aA, aB], false, 0, 0⟩
def x3 : De := ⟨[aA, aB], true, 0, 0⟩
def x4 : De := ⟨[aA, aB], false, 1, 10⟩
def x5 : De := ⟨[aA, aB], true, 1, 10⟩
def x6 : De := ⟨[aB], false, 0, 0⟩
theorem dto_cast {D B R : Nat} {x y : De} {w v : World} (h : DTo D B R 2 3 10 4 x w v) (e : x = y) : DTo D B R 2 3 10 4 y w v := e ▸ h
section
variable {w u : World} {D B R : Nat} {As : List Nat}
theorem fx_push1 (h : FS w D B R As ⟨[], false, 0, 0⟩ u) : Calls Try.prog 8 #[.pointer (some ⟨D, 0, none⟩), alV aA] u fun e v => e = .returned (.int .i64 0) ∧ FS w D B R As x1 v := by
  obtain ⟨f, hd⟩ := h.d
  exact (dpush_any hd aA (by decide)).mono fun e v z => ⟨z.1, h.call (dto_cast z.2 rfl)⟩
theorem fx_push2 (h : FS w D B R As x1 u) : Calls Try.prog 8 #[.pointer (some ⟨D, 0, none⟩), .agg #[.int .i64 0, .int .i64 0, .int .i64 0, .int .i64 0, .int .i64 0, .int .i64 0, .int .i64 0, .int .i64 0, .int .i64 0, .int .i64 0, .string ⟨#[98]⟩, .int .u32 0]] u fun e v => e = .returned (.int .i64 0) ∧ FS w D B R As x2 v := by
  obtain ⟨f, hd⟩ := h.d
  exact (dpush_any hd aB (by decide)).mono fun e v z => ⟨z.1, h.call (dto_cast z.2 rfl)⟩
theorem fx_push3 (h : FS w D B R As x2 u) : Calls Try.prog 8 #[.pointer (some ⟨D, 0, none⟩), alV aA] u fun e v => e = .returned (.int .i64 180) ∧ FS w D B R As x2 v := by
  obtain ⟨f, hd⟩ := h.d
  exact (dpush_any hd aA (by decide)).mono fun e v z => ⟨z.1, h.call (dto_cast z.2 rfl)⟩
theorem fx_send1 (h : FS w D B R As x2 u) : Calls Try.prog 15 #[.pointer (some ⟨D, 0, none⟩), .int .i64 0] u fun e v => e = .returned (.tuple #[alV aA, .int .i64 1, .bool true]) ∧ FS w D B R As x3 v := by
  obtain ⟨f, hd⟩ := h.d
  exact (Send_yes hd 0 (by decide)).mono fun e v z => ⟨z.1, h.call (dto_cast z.2 rfl)⟩
theorem fx_no (h : FS w D B R As x3 u) : Calls Try.prog 19 #[.pointer (some ⟨D, 0, none⟩), .bool false, .int .i64 5, .int .i64 2] u fun e v => e = .returned (.tuple #[alV aA, .bool true]) ∧ FS w D B R As x4 v := by
  obtain ⟨f, hd⟩ := h.d
  exact (Ans_no hd rfl (by decide) 5 2).mono fun e v z => ⟨z.1, h.call (dto_cast z.2 rfl)⟩
theorem fx_send2 (h : FS w D B R As x4 u) : Calls Try.prog 15 #[.pointer (some ⟨D, 0, none⟩), .int .i64 9] u fun e v => e = .returned (.tuple #[alV alZ, .int .i64 0, .bool false]) ∧ FS w D B R As x4 v := by
  obtain ⟨f, hd⟩ := h.d
  exact (Send_no hd 9 (by decide)).mono fun e v z => ⟨z.1, h.call z.2⟩
theorem fx_send3 (h : FS w D B R As x4 u) : Calls Try.prog 15 #[.pointer (some ⟨D, 0, none⟩), .int .i64 10] u fun e v => e = .returned (.tuple #[alV aA, .int .i64 2, .bool true]) ∧ FS w D B R As x5 v := by
  obtain ⟨f, hd⟩ := h.d
  exact (Send_yes hd 10 (by decide)).mono fun e v z => ⟨z.1, h.call (dto_cast z.2 rfl)⟩
theorem fx_yes (h : FS w D B R As x5 u) : Calls Try.prog 19 #[.pointer (some ⟨D, 0, none⟩), .bool true, .int .i64 10, .int .i64 0] u fun e v => e = .returned (.tuple #[alV aA, .bool true]) ∧ FS w D B R As x6 v := by
  obtain ⟨f, hd⟩ := h.d
  exact (Ans_yes hd rfl (y := aA) (t := [aB]) rfl 10 0).mono fun e v z => ⟨z.1, h.call (dto_cast z.2 rfl)⟩
end
set_option maxRecDepth 20000 in
set_option maxHeartbeats 4000000 in
theorem fixed_any (w : World) : Calls Try.prog 5 #[] w fun e w' => e = .returned (.bool true) ∧ Below w.heap.size w w' := by
  have HN : Hid (Calls Try.prog 7 #[.int .i64 2, .int .i64 3, .int .i64 10, .int .i64 4] w _) := dnew_any (w := w) (n := 2) (bs := 3) (ms := 10) (jl := 4) (by omega) (by omega) (by omega) (by omega)
  go_enter Try.func5, Try.ntmps5
  go_wp2_with fail
  refine HN.out.mono ?_
  rintro e u1 ⟨D, B, R, rfl, hn⟩
  have HN1 : Hid (NewD 2 3 10 4 D B R w u1) := hn
  have HB : Hid (Calls Try.prog 7 #[.int .i64 0, .int .i64 0, .int .i64 0, .int .i64 0] u1 _) := dnew_bad (w := u1) (q := 0) (b := 0) (m := 0) (j := 0) (fun h => absurd h.1 (by omega))
  clear hn HN
  go_wp2_with fail
  refine HB.out.mono ?_
  rintro e u2 ⟨rfl, k2⟩
  have h2 : FS w D B R [] ⟨[], false, 0, 0⟩ u2 := by
    obtain ⟨g1, g2, g3⟩ := HN1.out
    exact ⟨⟨0, g1.later k2⟩, fun A hA => by simp at hA, below_step g2 k2, g3⟩
  obtain ⟨au3, hwu3⟩ : ∃ x, u2.alloc (.cells (alC alZ).toArray 41) = x := ⟨_, rfl⟩
  obtain ⟨A5, hA5⟩ : ∃ x, u2.heap.size = x := ⟨_, rfl⟩
  obtain ⟨pu3, qu3, -⟩ := zal_new hwu3 hA5
  have HWu3 : Hid (u2.alloc (.cells #[.int .i64 0, .int .i64 0, .int .i64 0, .int .i64 0, .int .i64 0, .int .i64 0, .int .i64 0, .int .i64 0, .int .i64 0, .int .i64 0, .string ⟨#[]⟩, .int .u32 0] 41) = au3) := hwu3
  have HA5 : Hid (u2.heap.size = A5) := hA5
  have su3 : (storeAl (.pointer (some ⟨A5, 0, none⟩)) (.agg #[.int .i64 0, .int .i64 0, .int .i64 0, .int .i64 0, .int .i64 0, .int .i64 0, .int .i64 0, .int .i64 0, .int .i64 0, .int .i64 0, .string ⟨#[97]⟩, .int .u32 0])).run Try.prog au3 = .ok () (au3.setCells A5 0 (alC aA)) := pu3.store aA
  have ru3 := pu3.put aA
  have tu3 := below_puts qu3 (Nat.le_of_eq hA5) 0 (alC aA)
  obtain ⟨u3, hzu3⟩ : ∃ x, au3.setCells A5 0 (alC aA) = x := ⟨_, rfl⟩
  rw [hzu3] at su3 ru3 tu3
  have h3 := h2.box (Nat.le_of_eq hA5) tu3 ru3
  have l3 := ru3.load
  have HS : Hid (FS w D B R [A5] ⟨[], false, 0, 0⟩ u3) := h3
  have HP : Hid (Calls Try.prog 8 #[.pointer (some ⟨D, 0, none⟩), alV aA] u3 _) := fx_push1 h3
  clear hwu3 hA5 pu3 qu3 ru3 tu3 hzu3 h2 h3 k2 HB HN1
  go_upto_region 6 with (rw [HWu3.out, HA5.out])
  go_wp2_with fail
  refine HP.out.mono ?_
  rintro e u4 ⟨rfl, h4⟩
  have HP : Hid (Calls Try.prog 8 #[.pointer (some ⟨D, 0, none⟩), .agg #[.int .i64 0, .int .i64 0, .int .i64 0, .int .i64 0, .int .i64 0, .int .i64 0, .int .i64 0, .int .i64 0, .int .i64 0, .int .i64 0, .string ⟨#[98]⟩, .int .u32 0]] u4 _) := fx_push2 h4
  clear h4 l3
  go_wp2_with fail
  refine HP.out.mono ?_
  rintro e u5 ⟨rfl, h5⟩
  have l5 := (h5.b A5 (by simp)).1.load
  have HP : Hid (Calls Try.prog 8 #[.pointer (some ⟨D, 0, none⟩), alV aA] u5 _) := fx_push3 h5
  clear h5
  go_wp2_with fail
  refine HP.out.mono ?_
  rintro e u6 ⟨rfl, h6⟩
  have HP : Hid (Calls Try.prog 15 #[.pointer (some ⟨D, 0, none⟩), .int .i64 0] u6 _) := fx_send1 h6
  clear h6 l5
  go_wp2_with fail
  refine HP.out.mono ?_
  rintro e u7 ⟨rfl, hu7⟩
  obtain ⟨au8, hwu8⟩ : ∃ x, u7.alloc (.cells (alC alZ).toArray 41) = x := ⟨_, rfl⟩
  obtain ⟨A9, hA9⟩ : ∃ x, u7.heap.size = x := ⟨_, rfl⟩
  obtain ⟨pu8, qu8, -⟩ := zal_new hwu8 hA9
  have HWu8 : Hid (u7.alloc (.cells #[.int .i64 0, .int .i64 0, .int .i64 0, .int .i64 0, .int .i64 0, .int .i64 0, .int .i64 0, .int .i64 0, .int .i64 0, .int .i64 0, .string ⟨#[]⟩, .int .u32 0] 41) = au8) := hwu8
  have HA9 : Hid (u7.heap.size = A9) := hA9
  have su8 : (storeAl (.pointer (some ⟨A9, 0, none⟩)) (alV aA)).run Try.prog au8 = .ok () (au8.setCells A9 0 (alC aA)) := pu8.store aA
  have ru8 := pu8.put aA
  have tu8 := below_puts qu8 (Nat.le_of_eq hA9) 0 (alC aA)
  obtain ⟨u8, hzu8⟩ : ∃ x, au8.setCells A9 0 (alC aA) = x := ⟨_, rfl⟩
  rw [hzu8] at su8 ru8 tu8
  have hu8 := hu7.box (Nat.le_of_eq hA9) tu8 ru8
  have HP : Hid (Calls Try.prog 19 #[.pointer (some ⟨D, 0, none⟩), .bool false, .int .i64 5, .int .i64 2] u8 _) := fx_no hu8
  clear hwu8 hA9 pu8 qu8 ru8 tu8 hzu8 hu7 hu8
  go_upto_region 10 with (rw [HWu8.out, HA9.out])
  go_wp2_with fail
  refine HP.out.mono ?_
  rintro e u9 ⟨rfl, hu9⟩
  obtain ⟨au10, hwu10⟩ : ∃ x, u9.alloc (.cells (alC alZ).toArray 41) = x := ⟨_, rfl⟩
  obtain ⟨A12, hA12⟩ : ∃ x, u9.heap.size = x := ⟨_, rfl⟩
  obtain ⟨pu10, qu10, -⟩ := zal_new hwu10 hA12
  have HWu10 : Hid (u9.alloc (.cells #[.int .i64 0, .int .i64 0, .int .i64 0, .int .i64 0, .int .i64 0, .int .i64 0, .int .i64 0, .int .i64 0, .int .i64 0, .int .i64 0, .string ⟨#[]⟩, .int .u32 0] 41) = au10) := hwu10
  have HA12 : Hid (u9.heap.size = A12) := hA12
  have su10 : (storeAl (.pointer (some ⟨A12, 0, none⟩)) (alV aA)).run Try.prog au10 = .ok () (au10.setCells A12 0 (alC aA)) := pu10.store aA
  have ru10 := pu10.put aA
  have tu10 := below_puts qu10 (Nat.le_of_eq hA12) 0 (alC aA)
  obtain ⟨u10, hzu10⟩ : ∃ x, au10.setCells A12 0 (alC aA) = x := ⟨_, rfl⟩
  rw [hzu10] at su10 ru10 tu10
  have hu10 := hu9.box (Nat.le_of_eq hA12) tu10 ru10
  have HP : Hid (Calls Try.prog 15 #[.pointer (some ⟨D, 0, none⟩), .int .i64 9] u10 _) := fx_send2 hu10
  clear hwu10 hA12 pu10 qu10 ru10 tu10 hzu10 hu9 hu10
  go_upto_region 11 with (rw [HWu10.out, HA12.out])
  go_wp2_with fail
  refine HP.out.mono ?_
  rintro e u11 ⟨rfl, hu11⟩
  obtain ⟨au12, hwu12⟩ : ∃ x, u11.alloc (.cells (alC alZ).toArray 41) = x := ⟨_, rfl⟩
  obtain ⟨A14, hA14⟩ : ∃ x, u11.heap.size = x := ⟨_, rfl⟩
  obtain ⟨pu12, qu12, -⟩ := zal_new hwu12 hA14
  have HWu12 : Hid (u11.alloc (.cells #[.int .i64 0, .int .i64 0, .int .i64 0, .int .i64 0, .int .i64 0, .int .i64 0, .int .i64 0, .int .i64 0, .int .i64 0, .int .i64 0, .string ⟨#[]⟩, .int .u32 0] 41) = au12) := hwu12
  have HA14 : Hid (u11.heap.size = A14) := hA14
  have su12 : (storeAl (.pointer (some ⟨A14, 0, none⟩)) (alV alZ)).run Try.prog au12 = .ok () (au12.setCells A14 0 (alC alZ)) := pu12.store alZ
  have ru12 := pu12.put alZ
  have tu12 := below_puts qu12 (Nat.le_of_eq hA14) 0 (alC alZ)
  obtain ⟨u12, hzu12⟩ : ∃ x, au12.setCells A14 0 (alC alZ) = x := ⟨_, rfl⟩
  rw [hzu12] at su12 ru12 tu12
  have hu12 := hu11.later tu12
  have HP : Hid (Calls Try.prog 15 #[.pointer (some ⟨D, 0, none⟩), .int .i64 10] u12 _) := fx_send3 hu12
  clear hwu12 hA14 pu12 qu12 ru12 tu12 hzu12 hu11 hu12
  go_upto_region 12 with (rw [HWu12.out, HA14.out])
  go_wp2_with fail
  refine HP.out.mono ?_
  rintro e u13 ⟨rfl, hu13⟩
  obtain ⟨au14, hwu14⟩ : ∃ x, u13.alloc (.cells (alC alZ).toArray 41) = x := ⟨_, rfl⟩
  obtain ⟨A17, hA17⟩ : ∃ x, u13.heap.size = x := ⟨_, rfl⟩
  obtain ⟨pu14, qu14, -⟩ := zal_new hwu14 hA17
  have HWu14 : Hid (u13.alloc (.cells #[.int .i64 0, .int .i64 0, .int .i64 0, .int .i64 0, .int .i64 0, .int .i64 0, .int .i64 0, .int .i64 0, .int .i64 0, .int .i64 0, .string ⟨#[]⟩, .int .u32 0] 41) = au14) := hwu14
  have HA17 : Hid (u13.heap.size = A17) := hA17
  have su14 : (storeAl (.pointer (some ⟨A17, 0, none⟩)) (alV aA)).run Try.prog au14 = .ok () (au14.setCells A17 0 (alC aA)) := pu14.store aA
  have ru14 := pu14.put aA
  have tu14 := below_puts qu14 (Nat.le_of_eq hA17) 0 (alC aA)
  obtain ⟨u14, hzu14⟩ : ∃ x, au14.setCells A17 0 (alC aA) = x := ⟨_, rfl⟩
  rw [hzu14] at su14 ru14 tu14
  have hu14 := hu13.later tu14
  have HP : Hid (Calls Try.prog 19 #[.pointer (some ⟨D, 0, none⟩), .bool true, .int .i64 10, .int .i64 0] u14 _) := fx_yes hu14
  clear hwu14 hA17 pu14 qu14 ru14 tu14 hzu14 hu13 hu14
  go_upto_region 13 with (rw [HWu14.out, HA17.out])
  go_wp2_with fail
  refine HP.out.mono ?_
  rintro e u15 ⟨rfl, hu15⟩
  obtain ⟨au16, hwu16⟩ : ∃ x, u15.alloc (.cells (alC alZ).toArray 41) = x := ⟨_, rfl⟩
  obtain ⟨A20, hA20⟩ : ∃ x, u15.heap.size = x := ⟨_, rfl⟩
  obtain ⟨pu16, qu16, -⟩ := zal_new hwu16 hA20
  have HWu16 : Hid (u15.alloc (.cells #[.int .i64 0, .int .i64 0, .int .i64 0, .int .i64 0, .int .i64 0, .int .i64 0, .int .i64 0, .int .i64 0, .int .i64 0, .int .i64 0, .string ⟨#[]⟩, .int .u32 0] 41) = au16) := hwu16
  have HA20 : Hid (u15.heap.size = A20) := hA20
  have su16 : (storeAl (.pointer (some ⟨A20, 0, none⟩)) (alV aA)).run Try.prog au16 = .ok () (au16.setCells A20 0 (alC aA)) := pu16.store aA
  have ru16 := pu16.put aA
  have tu16 := below_puts qu16 (Nat.le_of_eq hA20) 0 (alC aA)
  obtain ⟨u16, hzu16⟩ : ∃ x, au16.setCells A20 0 (alC aA) = x := ⟨_, rfl⟩
  rw [hzu16] at su16 ru16 tu16
  have hu16 := hu15.later tu16
  obtain ⟨f9, hd9⟩ := hu16.d
  have HP : Hid (Calls Try.prog 12 #[.pointer (some ⟨D, 0, none⟩)] u16 _) := queue_any hd9
  have HS9 : Hid (FS w D B R [A12, A9, A5] x6 u16) := hu16
  clear hwu16 hA20 pu16 qu16 ru16 tu16 hzu16 hu15 hu16 hd9
  go_upto_region 14 with (rw [HWu16.out, HA20.out])
  go_wp2_with fail
  refine HP.out.mono ?_
  rintro e u17 ⟨A22, rfl, hr, hA22, k17⟩
  have h17 := HS9.out.later k17
  obtain ⟨f17, hd17⟩ := h17.d
  have l1 := (h17.b A12 (by simp)).1.load
  have l2 := (h17.b A9 (by simp)).1.load
  have l3 := (h17.b A5 (by simp)).1.load
  have c10 : u17.cell? ⟨A22, 10, none⟩ = some (.string ⟨#[98]⟩) := by
    have := hr.range (p := 0) (by decide) 10 (.string ⟨#[98]⟩) rfl
    simpa using this
  have HWT : Hid (Calls Try.prog 14 #[.pointer (some ⟨D, 0, none⟩)] u17 fun e w' => e = .returned (.int .i64 0) ∧ w' = u17) := wait_any hd17
  have HFU : Hid (Calls Try.prog 13 #[.pointer (some ⟨D, 0, none⟩)] u17 fun e w' => e = .returned (.bool false) ∧ w' = u17.drew) := dfull_any hd17
  have HLO : Hid (Below w.heap.size w u17.drew) := below_d h17.lo
  have hlen : x6.l.length = 1 := rfl
  rw [hlen]
  clear hr hA22 k17 h17 hd17 hlen HP
  go_wp2_with fail
  refine HWT.out.mono ?_
  rintro e v1 ⟨rfl, hv⟩
  subst hv
  go_wp2_with fail
  refine HFU.out.mono ?_
  rintro e v2 ⟨rfl, hv⟩
  subst hv
  go_wp2
  go_ret
  exact ⟨rfl, HLO.out⟩
end Go.Proofs.Ytmdhlaccioaomaa
