/- Plain: the fixed example's disk and follower. -/
import Derived.Test.YtpikepifhnkmkaaG48
import Derived.Lib.SlBytesConst
namespace Go.Proofs.Ytpikepifhnkmkaa
open Go.RowKit Sf Ln Fo

def sa : ByteArray := ⟨#[97]⟩
def sb : ByteArray := ⟨#[98]⟩
theorem sab : sa ≠ sb := by decide
theorem may_a : may sa = true := by decide
theorem may_b : may sb = true := by decide
def mk (f : Ino) (la lb : Option (Nat × Nat)) : Dk := ⟨1, fun m => if m = 1 then some f else none, fun t => if t = sa then la else if t = sb then lb else none⟩
section
variable {f f' : Ino} {la lb : Option (Nat × Nat)} {q : Nat}
theorem mk_put : Sf.putI (mk f la lb) 1 (some f') = mk f' la lb := by
  unfold Sf.putI mk
  congr 1
  funext m
  by_cases h : m = 1 <;> simp [h]
theorem mk_ino : (mk f la lb).ino 1 = some f := by simp [mk]
theorem mk_num : num (mk f (some (q, 1)) lb) sa = 1 := by simp [num, mk]
theorem mk_err : err (mk f (some (q, 1)) lb) sa = 0 := by unfold err; rw [may_a, mk_num]; rfl
theorem mk_numb : num (mk f la (some (q, 1))) sb = 1 := by have : sb ≠ sa := fun e => sab e.symm; simp [num, mk, this]
theorem mk_errb : err (mk f la (some (q, 1))) sb = 0 := by unfold err; rw [may_b, mk_numb]; rfl
theorem mk_serb : ser (mk f la (some (q, 1))) sb = q := by have : sb ≠ sa := fun e => sab e.symm; simp [ser, mk, this]
theorem mk_ser : ser (mk f (some (q, 1)) lb) sa = q := by simp [ser, mk]
theorem mk_new : Sf.create Sf.new sa = mk ⟨sa, 0, [], 0⟩ (some (1, 1)) none := by
  unfold Sf.create Sf.arrive Sf.putI Sf.putL Sf.up Sf.new mk Sf.ser
  simp only
  congr 1
  · funext m
    by_cases h : m = 1 <;> simp [h, Sf.Ino.name, Sf.fresh]
  · funext t
    by_cases h : t = sa <;> simp [h]
end
def sr : ByteArray := ⟨#[97, 46, 49]⟩
def fxB : List UInt8 := [97, 98, 10, 99, 100, 101, 102, 103, 10, 120]
def fxD : Dk := mk ⟨sa, 0, fxB, 0⟩ (some (1, 1)) none
def fx0 : Fo := newF sa 5 4 zeroM
def fxM (o : Int) : Mrk := ⟨1, 1, 0, o, 0, 0, 0, 0, 0⟩
def fx1 : Fo := ⟨fxM 0, sa, 4, ⟨[], 5, 0⟩⟩
def fx2 : Fo := ⟨fxM 3, sa, 4, ⟨[], 5, 0⟩⟩
def fx3 : Fo := ⟨fxM 3, sa, 4, ⟨[99, 100, 101, 102], 5, 0⟩⟩
def fx4 : Fo := ⟨fxM 9, sa, 4, ⟨[], 5, 0⟩⟩
theorem fx_s1 : fx0.step fxD = fx1 ∧ fx0.line fxD = none := ⟨by kernel_rfl, by kernel_rfl⟩
theorem fx_s2 : fx1.step fxD = fx2 ∧ fx1.line fxD = some [97, 98] := ⟨by kernel_rfl, by kernel_rfl⟩
theorem fx_s3 : fx2.step fxD = fx3 ∧ fx2.line fxD = none := ⟨by kernel_rfl, by kernel_rfl⟩
theorem fx_s4 : fx3.step fxD = fx4 ∧ fx3.line fxD = some [99, 100, 101, 102, 103] := ⟨by kernel_rfl, by kernel_rfl⟩
theorem fx_made (d : Dk) (p1 p2 : ByteArray) (l c : Nat) : madeF p1 p2 l c zeroM d = newF p1 l c zeroM := by unfold madeF; rw [if_neg (fun e => e.1 rfl)]
theorem new_in (p1 : ByteArray) (l c : Nat) (hl : l ≤ 4096) (hc : 1 ≤ c ∧ c ≤ 4096) (hp : p1.size ≤ 32) : (newF p1 l c zeroM).Ok 0 :=
  ⟨⟨zero_in, zero_in, zero_in, zero_in, zero_in, zero_in, zero_in, zero_in, zero_in⟩, hl, Nat.zero_le _, Nat.le_refl _, hc, hp⟩
theorem may_zero : mayB zeroM = true := by decide +kernel
theorem may_r : may sr = true := by decide
theorem err_may {d : Dk} {s : ByteArray} (h : may s = true) : err d s ≠ 140 := by unfold err; rw [if_pos h]; split <;> omega
theorem err_size (d : Dk) : err d ⟨#[]⟩ = 140 := by unfold err; rw [if_neg (by decide)]
end Go.Proofs.Ytpikepifhnkmkaa

/- heronlaw17: fixed. -/
namespace Go.Proofs.Ytpikepifhnkmkaa
open Go.RowKit Go.Maps Sf Ln Fo
attribute [local go_sem ↓] Go.wp_at_zero Go.wp_at_succ

def fxF (b : List UInt8) : Ino := ⟨sa, 0, b, 0⟩
theorem fx_create {P : Nat → Prop} {w : World} {B : Nat} (h : Dsk P w B Sf.new 0) : Calls Try.prog 10 #[.pointer (some ⟨B, 0, none⟩), .string sa] w fun e w' => e = .returned (.int .i64 0) ∧ Dsk (More P w w') w' B (mk (fxF []) (some (1, 1)) none) 1 ∧ FrP P w w' := by
  have he : err Sf.new sa = 141 := by kernel_rfl
  refine (create_any h sa (by decide)).mono fun e w' x => ?_
  rcases x with ⟨y, _⟩ | ⟨_, y, z⟩
  · exact absurd he y
  · refine ⟨y, ?_, z.2⟩
    have hw := h.wf.create (s := sa) (by decide) (by kernel_rfl)
    have := z.dsk hw (by omega)
    rw [mk_new] at this
    exact this
theorem fx_append {P : Nat → Prop} {w : World} {B : Nat} (h : Dsk P w B (mk (fxF []) (some (1, 1)) none) 1) {Y : Value} (hY : LAt w Y (uv fxB)) : Calls Try.prog 12 #[.pointer (some ⟨B, 0, none⟩), .string sa, Y] w fun e w' => e = .returned (.int .i64 0) ∧ Dsk (More P w w') w' B fxD 2 ∧ FrP P w w' := by
  refine (append_any h sa (by decide) hY).mono fun e w' x => ?_
  rcases x with ⟨y, _⟩ | ⟨_, f, hf, (⟨y, _⟩ | ⟨_, y, z⟩)⟩
  · exact absurd mk_err y
  · rw [mk_num, mk_ino] at hf
    cases hf
    have : (fxF []).bs.length + fxB.length = 10 := rfl
    omega
  · rw [mk_num, mk_ino] at hf
    cases hf
    rw [mk_num, mk_put] at z
    have hw : Wf (mk ((fxF []).lay fxB) (some (1, 1)) none) 2 := by
      have := h.wf.putI (f' := (fxF []).lay fxB) (n := 1) mk_ino rfl (by decide) (by decide) (by decide)
      rw [mk_put] at this
      exact this
    exact ⟨y, (z.up (Nat.le_succ 1)).dsk hw (by omega), z.2⟩
section
variable {w0 u : World} {Pd : Nat → Prop} {Bd F B K C : Nat} {d : Dk} {f f' : Fo} {l : Option (List UInt8)}
theorem FoS.stepTo (h : FoS w0 Pd Bd F B d f K C u) (hC : C < 1000000) (hs : f.step d = f' ∧ f.line d = l) : Calls Try.prog 11 #[.pointer (some ⟨F, 0, none⟩), .pointer (some ⟨Bd, 0, none⟩)] u fun e v => e = .returned (.tuple #[lineV (l.map fun t => (f.m, t)), .bool l.isSome]) ∧ FoS w0 Pd Bd F B d f' K (C + 1) v ∧ Bxs u v := by
  obtain ⟨rfl, rfl⟩ := hs
  exact h.step hC
theorem LnBx.ty {z : Nat} {m : Mrk} {t : ByteArray} (h : LnBx u z m t) : TyB u 42 z := ⟨_, _, h⟩
theorem LnBx.kept {v : World} {z : Nat} {m : Mrk} {t : ByteArray} (h : LnBx u z m t) (hb : Bxs u v) : LnBx v z m t := (hb _ z h.ty (by decide) (by decide) (by decide)).trans h
theorem LnBx.later {v : World} {z : Nat} {m : Mrk} {t : ByteArray} (h : LnBx u z m t) (hb : Below u.heap.size u v) : LnBx v z m t := (hb.block z (Array.getElem?_eq_some_iff.1 h).1).trans h
theorem LnBx.cells {z : Nat} {m : Mrk} {t : ByteArray} (h : LnBx u z m t) : u.cell? ⟨z, 0, none⟩ = some (.int .i64 m.s) ∧ u.cell? ⟨z, 1, none⟩ = some (.int .i64 m.n) ∧ u.cell? ⟨z, 2, none⟩ = some (.int .i64 m.g) ∧ u.cell? ⟨z, 3, none⟩ = some (.int .i64 m.o) ∧ u.cell? ⟨z, 4, none⟩ = some (.int .i64 m.ms) ∧ u.cell? ⟨z, 5, none⟩ = some (.int .i64 m.gn) ∧ u.cell? ⟨z, 6, none⟩ = some (.int .i64 m.ct) ∧ u.cell? ⟨z, 7, none⟩ = some (.int .i64 m.tl) ∧ u.cell? ⟨z, 8, none⟩ = some (.int .i64 m.lg) ∧ u.cell? ⟨z, 9, none⟩ = some (.string t) := by
  simp [World.cell?, show u.heap[z]? = _ from h, mkC]
end
set_option maxRecDepth 8000 in
set_option maxHeartbeats 8000000 in
theorem fixed_any (w : World) : Calls Try.prog 5 #[] w fun e w' => e = .returned (.bool true) ∧ Below w.heap.size w w' := by
  have HN : Hid (Calls Try.prog 7 #[] w _) := new_any w
  have hp1 : ∀ (p : Option Addr) (u : World), (binOp .eql 26 (.pointer p) (.pointer none)).run Try.prog u = .ok (.bool p.isNone) u := fun p u => run_eql_pointer_nil u _ p (by kernel_rfl)
  have hp2 : ∀ (p : Option Addr) (u : World), (binOp .eql 30 (.pointer p) (.pointer none)).run Try.prog u = .ok (.bool p.isNone) u := fun p u => run_eql_pointer_nil u _ p (by kernel_rfl)
  have kc : ∀ (u : World) (C : Array Value) (n c : Nat), (convert 46 46 (.slice (some ⟨u.heap.size, 0, none⟩) n c)).run Try.prog (u.alloc (.cells C 5)) = .ok (.slice (some ⟨u.heap.size, 0, none⟩) n c) (u.alloc (.cells C 5 (C.size, C.size + 1))) := fun u C n c => Lib.run_convert_bytes_const (P := Try.prog) u 46 5 C n c (by kernel_rfl) Try.underlying5
  go_enter Try.func5, Try.ntmps5
  go_wp2_with fail
  refine HN.out.mono ?_
  rintro e w1 ⟨Bd, P, rfl, hd1, hlow, k1⟩
  have HLOW : Hid ((∀ k, P k → w.heap.size ≤ k) ∧ Below w.heap.size w w1) := ⟨hlow, k1⟩
  have HC : Hid (Calls Try.prog 10 #[.pointer (some ⟨Bd, 0, none⟩), .string sa] w1 _) := fx_create hd1
  unfold sa at HC
  clear hd1 hlow k1 HN
  go_wp2_with fail
  refine HC.out.mono ?_
  rintro e w2 ⟨rfl, hd2, fr2⟩
  have L2 := lo_step HLOW.out.2 fr2 HLOW.out.1
  obtain ⟨P2, hP2⟩ : ∃ P2, More P w1 w2 = P2 := ⟨_, rfl⟩
  rw [hP2] at hd2 L2
  obtain ⟨w3, hw3⟩ : ∃ w3, w2.alloc (.cells #[.int .u8 97, .int .u8 98, .int .u8 10, .int .u8 99, .int .u8 100, .int .u8 101, .int .u8 102, .int .u8 103, .int .u8 10, .int .u8 120] 5 (10, 11)) = w3 := ⟨_, rfl⟩
  have HW3 : Hid (w2.alloc (.cells #[.int .u8 97, .int .u8 98, .int .u8 10, .int .u8 99, .int .u8 100, .int .u8 101, .int .u8 102, .int .u8 103, .int .u8 10, .int .u8 120] 5 (10, 11)) = w3) := hw3
  have k3 : Below w2.heap.size w2 w3 := by rw [← hw3]; exact (Below.refl _ _).alloc (Nat.le_refl _) _
  have hl3 : LAt w3 (.slice (some ⟨w2.heap.size, 0, none⟩) 10 10) (uv fxB) := by rw [← hw3]; exact lat_const w2 fxB (10, 11) (by decide)
  have HC : Hid (Calls Try.prog 12 #[.pointer (some ⟨Bd, 0, none⟩), .string sa, .slice (some ⟨w2.heap.size, 0, none⟩) 10 10] w3 _) := fx_append (hd2.later k3) hl3
  unfold sa at HC
  have HL3 : Hid (Below w.heap.size w w3 ∧ ∀ k, P2 k → w.heap.size ≤ k) := ⟨below_step L2.1 k3, L2.2⟩
  clear hd2 fr2 L2 hP2 HLOW hw3 k3 hl3
  go_wp2_with fail
  rw [HW3.out]
  clear HW3
  refine HC.out.mono ?_
  rintro e w4 ⟨rfl, hd4, fr4⟩
  have L4 := lo_step HL3.out.1 fr4 HL3.out.2
  obtain ⟨P4, hP4⟩ : ∃ P4, More P2 w3 w4 = P4 := ⟨_, rfl⟩
  rw [hP4] at hd4 L4
  have HD4 : Hid (Dsk P4 w4 Bd fxD 2 ∧ Below w.heap.size w w4 ∧ ∀ k, P4 k → w.heap.size ≤ k) := ⟨hd4, L4.1, L4.2⟩
  have HC : Hid (Calls Try.prog 8 #[.agg #[.string ⟨#[97]⟩, .string ⟨#[97, 46, 49]⟩], .int .i64 5, .int .i64 4, .agg #[.int .i64 0, .int .i64 0, .int .i64 0, .int .i64 0, .int .i64 0, .int .i64 0, .int .i64 0, .int .i64 0, .int .i64 0], .pointer (some ⟨Bd, 0, none⟩)] w4 _) := new_ok hd4 sa sr (by decide) (by decide) 5 4 zeroM ⟨err_may may_a, .inl (err_may may_r)⟩ ⟨by decide, by decide⟩ ⟨by decide, by decide⟩ may_zero
  clear hd4 fr4 L4 hP4 HL3
  go_wp2_with fail
  refine HC.out.mono ?_
  rintro e w5 ⟨F, B, rfl, hn5⟩
  rw [fx_made] at hn5
  have HS5 : Hid (FoS w P4 Bd F B fxD fx0 2 0 w5) := FoS.made HD4.out.1 HD4.out.2.1 HD4.out.2.2 hn5 (new_in sa 5 4 (by decide) ⟨by decide, by decide⟩ (by decide))
  clear hn5 HC HD4
  have HC : Hid (Calls Try.prog 11 #[.pointer (some ⟨F, 0, none⟩), .pointer (some ⟨Bd, 0, none⟩)] w5 fun e v => e = .returned (.tuple #[.agg #[.int .i64 0, .int .i64 0, .int .i64 0, .int .i64 0, .int .i64 0, .int .i64 0, .int .i64 0, .int .i64 0, .int .i64 0, .string ⟨#[]⟩], .bool false]) ∧ FoS w P4 Bd F B fxD fx1 2 1 v ∧ Bxs w5 v) := HS5.out.stepTo (by decide) fx_s1
  go_wp2_with fail
  refine HC.out.mono ?_
  rintro e w6 ⟨rfl, hs, hb⟩
  obtain ⟨x6, hx⟩ : ∃ x, w6.alloc (.cells #[.int .i64 0, .int .i64 0, .int .i64 0, .int .i64 0, .int .i64 0, .int .i64 0, .int .i64 0, .int .i64 0, .int .i64 0, .string ⟨#[]⟩] 42) = x := ⟨_, rfl⟩
  obtain ⟨A0, hA⟩ : ∃ A, w6.heap.size = A := ⟨_, rfl⟩
  have kx : Below w6.heap.size w6 x6 := by rw [← hx]; exact (Below.refl _ _).alloc (Nat.le_refl _) _
  have HX0 : Hid (w6.alloc (.cells #[.int .i64 0, .int .i64 0, .int .i64 0, .int .i64 0, .int .i64 0, .int .i64 0, .int .i64 0, .int .i64 0, .int .i64 0, .string ⟨#[]⟩] 42) = x6 ∧ w6.heap.size = A0) := ⟨hx, hA⟩
  have HS6 : Hid (FoS w P4 Bd F B fxD fx1 2 1 x6) := hs.later kx
  have HB0 : Hid (LnBx x6 A0 zeroM ⟨#[]⟩) := by rw [← hx, ← hA]; exact heap_alloc_new w6 _
  clear hs hb hx hA kx HC
  go_upto_region 10 with fail
  rw [HX0.out.1, HX0.out.2]
  clear HX0
  have HC : Hid (Calls Try.prog 11 #[.pointer (some ⟨F, 0, none⟩), .pointer (some ⟨Bd, 0, none⟩)] x6 fun e v => e = .returned (.tuple #[.agg #[.int .i64 1, .int .i64 1, .int .i64 0, .int .i64 0, .int .i64 0, .int .i64 0, .int .i64 0, .int .i64 0, .int .i64 0, .string ⟨#[97, 98]⟩], .bool true]) ∧ FoS w P4 Bd F B fxD fx2 2 2 v ∧ Bxs x6 v) := HS6.out.stepTo (by decide) fx_s2
  go_wp2_with fail
  refine HC.out.mono ?_
  rintro e w7 ⟨rfl, hs, hb⟩
  obtain ⟨x7, hx⟩ : ∃ x, w7.alloc (.cells #[.int .i64 1, .int .i64 1, .int .i64 0, .int .i64 0, .int .i64 0, .int .i64 0, .int .i64 0, .int .i64 0, .int .i64 0, .string ⟨#[97, 98]⟩] 42) = x := ⟨_, rfl⟩
  obtain ⟨A1, hA⟩ : ∃ A, w7.heap.size = A := ⟨_, rfl⟩
  have kx : Below w7.heap.size w7 x7 := by rw [← hx]; exact (Below.refl _ _).alloc (Nat.le_refl _) _
  have HX1 : Hid (w7.alloc (.cells #[.int .i64 1, .int .i64 1, .int .i64 0, .int .i64 0, .int .i64 0, .int .i64 0, .int .i64 0, .int .i64 0, .int .i64 0, .string ⟨#[97, 98]⟩] 42) = x7 ∧ w7.heap.size = A1) := ⟨hx, hA⟩
  have HS7 : Hid (FoS w P4 Bd F B fxD fx2 2 2 x7) := hs.later kx
  have HB1 : Hid (LnBx x7 A1 (fxM 0) ⟨#[97, 98]⟩) := by rw [← hx, ← hA]; exact heap_alloc_new w7 _
  have HB0 : Hid (LnBx x7 A0 zeroM ⟨#[]⟩) := (HB0.out.kept hb).later kx
  clear hs hb hx hA kx HC
  go_upto_region 11 with fail
  rw [HX1.out.1, HX1.out.2]
  clear HX1
  have HC : Hid (Calls Try.prog 11 #[.pointer (some ⟨F, 0, none⟩), .pointer (some ⟨Bd, 0, none⟩)] x7 fun e v => e = .returned (.tuple #[.agg #[.int .i64 0, .int .i64 0, .int .i64 0, .int .i64 0, .int .i64 0, .int .i64 0, .int .i64 0, .int .i64 0, .int .i64 0, .string ⟨#[]⟩], .bool false]) ∧ FoS w P4 Bd F B fxD fx3 2 3 v ∧ Bxs x7 v) := HS7.out.stepTo (by decide) fx_s3
  go_wp2_with fail
  refine HC.out.mono ?_
  rintro e w8 ⟨rfl, hs, hb⟩
  obtain ⟨x8, hx⟩ : ∃ x, w8.alloc (.cells #[.int .i64 0, .int .i64 0, .int .i64 0, .int .i64 0, .int .i64 0, .int .i64 0, .int .i64 0, .int .i64 0, .int .i64 0, .string ⟨#[]⟩] 42) = x := ⟨_, rfl⟩
  obtain ⟨A2, hA⟩ : ∃ A, w8.heap.size = A := ⟨_, rfl⟩
  have kx : Below w8.heap.size w8 x8 := by rw [← hx]; exact (Below.refl _ _).alloc (Nat.le_refl _) _
  have HX2 : Hid (w8.alloc (.cells #[.int .i64 0, .int .i64 0, .int .i64 0, .int .i64 0, .int .i64 0, .int .i64 0, .int .i64 0, .int .i64 0, .int .i64 0, .string ⟨#[]⟩] 42) = x8 ∧ w8.heap.size = A2) := ⟨hx, hA⟩
  have HS8 : Hid (FoS w P4 Bd F B fxD fx3 2 3 x8) := hs.later kx
  have HB2 : Hid (LnBx x8 A2 zeroM ⟨#[]⟩) := by rw [← hx, ← hA]; exact heap_alloc_new w8 _
  have HB0 : Hid (LnBx x8 A0 zeroM ⟨#[]⟩) := (HB0.out.kept hb).later kx
  have HB1 : Hid (LnBx x8 A1 (fxM 0) ⟨#[97, 98]⟩) := (HB1.out.kept hb).later kx
  clear hs hb hx hA kx HC
  go_upto_region 12 with fail
  rw [HX2.out.1, HX2.out.2]
  clear HX2
  have HHD : Hid (Calls Try.prog 16 #[.pointer (some ⟨F, 0, none⟩)] x8 fun e v => e = .returned (.int .i64 4) ∧ v = x8) := HS8.out.held
  go_wp2_with fail
  refine HHD.out.mono ?_
  rintro e wx ⟨rfl, hwx⟩
  rw [hwx]
  clear hwx HHD
  have HC : Hid (Calls Try.prog 11 #[.pointer (some ⟨F, 0, none⟩), .pointer (some ⟨Bd, 0, none⟩)] x8 fun e v => e = .returned (.tuple #[.agg #[.int .i64 1, .int .i64 1, .int .i64 0, .int .i64 3, .int .i64 0, .int .i64 0, .int .i64 0, .int .i64 0, .int .i64 0, .string ⟨#[99, 100, 101, 102, 103]⟩], .bool true]) ∧ FoS w P4 Bd F B fxD fx4 2 4 v ∧ Bxs x8 v) := HS8.out.stepTo (by decide) fx_s4
  go_wp2_with fail
  refine HC.out.mono ?_
  rintro e w9 ⟨rfl, hs, hb⟩
  obtain ⟨x9, hx⟩ : ∃ x, w9.alloc (.cells #[.int .i64 1, .int .i64 1, .int .i64 0, .int .i64 3, .int .i64 0, .int .i64 0, .int .i64 0, .int .i64 0, .int .i64 0, .string ⟨#[99, 100, 101, 102, 103]⟩] 42) = x := ⟨_, rfl⟩
  obtain ⟨A3, hA⟩ : ∃ A, w9.heap.size = A := ⟨_, rfl⟩
  have kx : Below w9.heap.size w9 x9 := by rw [← hx]; exact (Below.refl _ _).alloc (Nat.le_refl _) _
  have HX3 : Hid (w9.alloc (.cells #[.int .i64 1, .int .i64 1, .int .i64 0, .int .i64 3, .int .i64 0, .int .i64 0, .int .i64 0, .int .i64 0, .int .i64 0, .string ⟨#[99, 100, 101, 102, 103]⟩] 42) = x9 ∧ w9.heap.size = A3) := ⟨hx, hA⟩
  have HS9 : Hid (FoS w P4 Bd F B fxD fx4 2 4 x9) := hs.later kx
  have HB3 : Hid (LnBx x9 A3 (fxM 3) ⟨#[99, 100, 101, 102, 103]⟩) := by rw [← hx, ← hA]; exact heap_alloc_new w9 _
  have HB0 : Hid (LnBx x9 A0 zeroM ⟨#[]⟩) := (HB0.out.kept hb).later kx
  have HB1 : Hid (LnBx x9 A1 (fxM 0) ⟨#[97, 98]⟩) := (HB1.out.kept hb).later kx
  have HB2 : Hid (LnBx x9 A2 zeroM ⟨#[]⟩) := (HB2.out.kept hb).later kx
  clear hs hb hx hA kx HC
  go_upto_region 14 with fail
  rw [HX3.out.1, HX3.out.2]
  clear HX3
  have HC : Hid (Calls Try.prog 8 #[.agg #[.string ⟨#[97]⟩, .string ⟨#[]⟩], .int .i64 0, .int .i64 4, .agg #[.int .i64 0, .int .i64 0, .int .i64 0, .int .i64 0, .int .i64 0, .int .i64 0, .int .i64 0, .int .i64 0, .int .i64 0], .pointer (some ⟨Bd, 0, none⟩)] x9 _) := new_invB HS9.out.dk sa ⟨#[]⟩ (by decide) (by decide) 0 4 zeroM ⟨err_may may_a, .inr rfl⟩ (by decide) (.inl rfl)
  go_wp2_with fail
  refine HC.out.mono ?_
  rintro e w10 ⟨rfl, k10⟩
  obtain ⟨x10, hx⟩ : ∃ x, w10.alloc (.cells #[.int .i64 1, .int .i64 1, .int .i64 0, .int .i64 3, .int .i64 0, .int .i64 0, .int .i64 0, .int .i64 0, .int .i64 0] 37) = x := ⟨_, rfl⟩
  obtain ⟨A9, hA⟩ : ∃ A, w10.heap.size = A := ⟨_, rfl⟩
  have kx : Below w10.heap.size w10 x10 := by rw [← hx]; exact (Below.refl _ _).alloc (Nat.le_refl _) _
  have kk : Below x9.heap.size x9 x10 := below_step k10 kx
  have HX9 : Hid (w10.alloc (.cells #[.int .i64 1, .int .i64 1, .int .i64 0, .int .i64 3, .int .i64 0, .int .i64 0, .int .i64 0, .int .i64 0, .int .i64 0] 37) = x10 ∧ w10.heap.size = A9) := ⟨hx, hA⟩
  have hmb : x10.heap[A9]? = some (.cells #[.int .i64 1, .int .i64 1, .int .i64 0, .int .i64 3, .int .i64 0, .int .i64 0, .int .i64 0, .int .i64 0, .int .i64 0] 37 (0, 0)) := by rw [← hx, ← hA]; exact heap_alloc_new w10 _
  have HS10 : Hid (FoS w P4 Bd F B fxD fx4 2 4 x10) := HS9.out.later kk
  obtain ⟨c0, c1, c2, c3, c4, c5, c6, c7, c8, c9⟩ := (HB1.out.later kk).cells
  obtain ⟨d0, d1, d2, d3, d4, d5, d6, d7, d8, d9⟩ := (HB3.out.later kk).cells
  have m0 : x10.cell? ⟨A9, 0, none⟩ = some (.int .i64 1) := by simp [World.cell?, hmb]
  have m1 : x10.cell? ⟨A9, 1, none⟩ = some (.int .i64 1) := by simp [World.cell?, hmb]
  have m2 : x10.cell? ⟨A9, 2, none⟩ = some (.int .i64 0) := by simp [World.cell?, hmb]
  have m3 : x10.cell? ⟨A9, 3, none⟩ = some (.int .i64 3) := by simp [World.cell?, hmb]
  have m4 : x10.cell? ⟨A9, 4, none⟩ = some (.int .i64 0) := by simp [World.cell?, hmb]
  have m5 : x10.cell? ⟨A9, 5, none⟩ = some (.int .i64 0) := by simp [World.cell?, hmb]
  have m6 : x10.cell? ⟨A9, 6, none⟩ = some (.int .i64 0) := by simp [World.cell?, hmb]
  have m7 : x10.cell? ⟨A9, 7, none⟩ = some (.int .i64 0) := by simp [World.cell?, hmb]
  have m8 : x10.cell? ⟨A9, 8, none⟩ = some (.int .i64 0) := by simp [World.cell?, hmb]
  have HMK : Hid (Calls Try.prog 13 #[.pointer (some ⟨F, 0, none⟩)] x10 fun e v => e = .returned (.agg #[.int .i64 1, .int .i64 1, .int .i64 0, .int .i64 9, .int .i64 0, .int .i64 0, .int .i64 0, .int .i64 0, .int .i64 0]) ∧ Below x10.heap.size x10 v) := HS10.out.mark
  have HLO : Hid (Below w.heap.size w x10) := HS10.out.lo
  simp only [fxM] at c0 c1 c2 c3 c4 c5 c6 c7 c8 d0 d1 d2 d3 d4 d5 d6 d7 d8
  clear k10 hx hA kx kk hmb HS5 HS6 HS7 HS8 HS9 HB0 HB1 HB2 HB3 HC
  go_upto_region 16 with fail
  rw [HX9.out.1, HX9.out.2]
  clear HX9
  go_wp2_with fail
  refine HMK.out.mono ?_
  rintro e w11 ⟨rfl, k11⟩
  have HE : Hid (Below w.heap.size w w11) := below_step HLO.out k11
  have hfld : (Instr.field 37 (.agg #[.int .i64 1, .int .i64 1, .int .i64 0, .int .i64 9, .int .i64 0, .int .i64 0, .int .i64 0, .int .i64 0, .int .i64 0]) 3).run Try.prog w11 = .ok (.int .i64 9) w11 := by kernel_rfl
  clear k11 HMK
  go_wp2
  go_ret
  exact ⟨rfl, HE.out⟩
end Go.Proofs.Ytpikepifhnkmkaa
