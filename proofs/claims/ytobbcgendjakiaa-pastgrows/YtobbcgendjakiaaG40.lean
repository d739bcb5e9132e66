/- heronlaw15: does (typed by gen/pado.py). -/
import Derived.Test.YtobbcgendjakiaaG39
import Derived.Test.YtobbcgendjakiaaG20
import Derived.Test.YtobbcgendjakiaaG18
import Derived.Lib.ConvBytes
namespace Go.Proofs.Ytobbcgendjakiaa
open Go.RowKit Go.Maps Sf
attribute [local go_sem ↓] Go.wp_at_zero Go.wp_at_succ

def onI (d : Dk) (a : ByteArray) (g : Ino → Ino) : Dk := match d.ino (num d a) with
  | some f => Sf.putI d (num d a) (some (g f))
  | none => d
def dropN (d : Dk) (a : ByteArray) : Dk := match d.ino (num d a) with
  | some f => Sf.drop d (num d a) f
  | none => d
def layN (d : Dk) (a : ByteArray) (l : List UInt8) : Dk := match d.ino (num d a) with
  | some f => if f.bs.length + l.length ≤ 1048576 then Sf.putI d (num d a) (some (f.lay l)) else d
  | none => d
structure Op5 where
  kind : Int
  nm : ByteArray
  ot : ByteArray
  dt : ByteArray
  kv : Value
  keep : List Int
  ino : Int
  gen : Int
  off : Int
def Op5.cells (o : Op5) : Array Value := #[.int .i64 o.kind, .string o.nm, .string o.ot, .string o.dt, o.kv, .int .i64 o.ino, .int .i64 o.gen, .int .i64 o.off]
structure Op5.Ok (o : Op5) : Prop where
  n : o.nm.size ≤ maxLen
  t : o.ot.size ≤ maxLen
  d : o.dt.size ≤ maxLen
  k : ∀ z ∈ o.keep, goodI z
/-- what an event makes of a disk -/
def doP (d : Dk) (o : Op5) : Dk :=
  if o.kind = 1 then (if err d o.nm = 141 then Sf.create d o.nm else d)
  else if o.kind = 2 then (if err d o.nm = 0 then layN d o.nm o.dt.data.toList else d)
  else if o.kind = 3 then (if err d o.nm = 0 then onI d o.nm (fun f => f.shorten 0) else d)
  else if o.kind = 4 then (if renE d o.nm o.ot = 0 ∧ o.nm ≠ o.ot then Sf.rename d o.nm o.ot else d)
  else if o.kind = 5 then (if err d o.nm = 0 then dropN d o.nm else d)
  else if o.kind = 6 then (if err d o.nm = 0 then onI d o.nm Ino.sync else d)
  else if o.kind = 7 then Sf.crash d o.keep
  else d
theorem renE_zero {d : Dk} {a b : ByteArray} (h : renE d a b = 0) : err d a = 0 ∧ may b = true := by
  unfold renE at h
  by_cases x : err d a = 140 ∨ may b = false
  · rw [if_pos x] at h; omega
  · rw [if_neg x] at h
    refine ⟨h, ?_⟩
    cases y : may b with
    | true => rfl
    | false => exact absurd (.inr y) x
theorem doP_wf {d : Dk} {K : Nat} (h : Wf d K) (o : Op5) : Wf (doP d o) (K + 1) := by
  have hu := h.up (Nat.le_succ K)
  have hin : err d o.nm = 0 → ∃ f, d.ino (num d o.nm) = some f ∧ f.ls ≤ f.bs.length ∧ f.bs.length ≤ 1048576 ∧ f.gen ≤ K := fun he => by
    obtain ⟨f, hf, _⟩ := h.numF (err_zero he).2
    have := h.ino _ f hf
    exact ⟨f, hf, this.2.2.2.2.1, this.2.2.2.2.2.1, this.2.2.2.2.2.2⟩
  unfold doP
  repeat' split
  · rename_i he
    have hm : may o.nm = true := by
      unfold err at he
      cases x : may o.nm with
      | true => rfl
      | false => rw [x] at he; simp at he
    refine h.create hm ?_
    unfold err at he
    rw [hm] at he
    refine Classical.byContradiction fun x => ?_
    rw [if_pos rfl, if_neg x] at he
    omega
  · exact hu
  · rename_i he
    obtain ⟨f, hf, h1, h2, h3⟩ := hin he
    unfold layN
    rw [hf]
    simp only
    split
    · rename_i hle
      exact h.putI hf rfl (by show f.ls ≤ (f.bs ++ o.dt.data.toList).length; rw [List.length_append]; omega) (by show (f.bs ++ o.dt.data.toList).length ≤ _; rw [List.length_append]; exact hle) (by show f.gen ≤ K + 1; omega)
    · exact hu
  · exact hu
  · rename_i he
    obtain ⟨f, hf, h1, h2, h3⟩ := hin he
    unfold onI
    rw [hf]
    obtain ⟨a1, a2, a3, a4⟩ := Ino.shorten_ok h1 h2 0
    exact h.putI (f' := f.shorten 0) hf a1 a2 a3 (by omega)
  · exact hu
  · rename_i he
    obtain ⟨e1, e2⟩ := renE_zero he.1
    exact h.rename e2 (err_zero e1).2 he.2
  · exact hu
  · rename_i he
    obtain ⟨f, hf, h1, h2, h3⟩ := hin he
    unfold dropN
    rw [hf]
    exact (h.drop hf).up (Nat.le_succ K)
  · exact hu
  · rename_i he
    obtain ⟨f, hf, h1, h2, h3⟩ := hin he
    unfold onI
    rw [hf]
    exact h.putI hf rfl (Nat.le_refl _) h2 (by show f.gen ≤ K + 1; omega)
  · exact hu
  · exact h.crash
  · exact hu
def DoPost (P : Nat → Prop) (w : World) (B : Nat) (d' : Dk) (K : Nat) (e : Ending) (w' : World) : Prop := ∃ x : Nat, e = .returned (.int .i64 (x : Nat)) ∧ DkTo P w B d' (K + 1) w'
section
variable {P : Nat → Prop} {w u v : World} {B K : Nat} {d : Dk}
theorem dkto_no (h : Dsk P w B d K) (hb : Below w.heap.size w u) : DkTo P w B d (K + 1) u := by
  obtain ⟨L, h1, h2⟩ := h.m
  exact ⟨⟨L, h1.more hb, by omega, by omega⟩, FrP.of_below P hb⟩
theorem DkTo.up {c c' : Nat} (h : DkTo P w B d c u) (hc : c ≤ c') : DkTo P w B d c' u := by
  obtain ⟨⟨L, h1, h2, h3⟩, h4⟩ := h
  exact ⟨⟨L, h1, by omega, by omega⟩, h4⟩
theorem DkTo.dsk {d' : Dk} (h : DkTo P w B d' (K + 1) u) (hw : Wf d' (K + 1)) (hK : K < 1000000) : Dsk (More P w u) u B d' (K + 1) := ⟨hw, h.1, by omega⟩
theorem do1 (h : Dsk P w B d K) (o : Op5) (ho : o.Ok) (hk : o.kind = 1) : Calls Try.prog 20 #[.pointer (some ⟨B, 0, none⟩), .string o.nm] w (DoPost P w B (doP d o) K) := (create_any h o.nm ho.n).mono fun e w' x => by
  unfold doP
  rw [if_pos hk]
  rcases x with ⟨h1, h2, h3⟩ | ⟨h1, h2, h3⟩
  · rw [if_neg h1]; exact ⟨_, h2, dkto_no h h3⟩
  · rw [if_pos h1]; exact ⟨0, h2, h3⟩
theorem do2 (h : Dsk P w B d K) (o : Op5) (ho : o.Ok) (hk : o.kind = 2) {Y : Value} (hY : LAt w Y (uv o.dt.data.toList)) : Calls Try.prog 21 #[.pointer (some ⟨B, 0, none⟩), .string o.nm, Y] w (DoPost P w B (doP d o) K) := (append_any h o.nm ho.n hY).mono fun e w' x => by
  unfold doP
  rw [if_neg (by omega), if_pos hk]
  rcases x with ⟨h1, h2, h3⟩ | ⟨h1, f, hf, (⟨h4, h2, h3⟩ | ⟨h4, h2, h3⟩)⟩
  · rw [if_neg h1]; exact ⟨_, h2, dkto_no h h3⟩
  · rw [if_pos h1]; unfold layN; rw [hf]; simp only; rw [if_neg (by omega)]; exact ⟨_, h2, dkto_no h h3⟩
  · rw [if_pos h1]; unfold layN; rw [hf]; simp only; rw [if_pos h4]; exact ⟨0, h2, h3.up (Nat.le_succ K)⟩
theorem do3 (h : Dsk P w B d K) (o : Op5) (ho : o.Ok) (hk : o.kind = 3) : Calls Try.prog 24 #[.pointer (some ⟨B, 0, none⟩), .string o.nm] w (DoPost P w B (doP d o) K) := (cut_any h o.nm ho.n).mono fun e w' x => by
  unfold doP
  rw [if_neg (by omega), if_neg (by omega), if_pos hk]
  rcases x with ⟨h1, h2, h3⟩ | ⟨h1, f, hf, h2, h3⟩
  · rw [if_neg h1]; exact ⟨_, h2, dkto_no h h3⟩
  · rw [if_pos h1]; unfold onI; rw [hf]; exact ⟨0, h2, h3.up (Nat.le_succ K)⟩
theorem do4 (h : Dsk P w B d K) (o : Op5) (ho : o.Ok) (hk : o.kind = 4) : Calls Try.prog 25 #[.pointer (some ⟨B, 0, none⟩), .string o.nm, .string o.ot] w (DoPost P w B (doP d o) K) := (rename_any h o.nm o.ot ho.n ho.t).mono fun e w' x => by
  unfold doP
  rw [if_neg (by omega), if_neg (by omega), if_neg (by omega), if_pos hk]
  obtain ⟨h0, (⟨h1, h2, h3⟩ | ⟨h1, h3⟩)⟩ := x
  · rw [if_pos ⟨h1, h2⟩]; exact ⟨_, h0, h3⟩
  · rw [if_neg (fun y => by rcases h1 with z | z; exact z y.1; exact y.2 z)]; exact ⟨_, h0, dkto_no h h3⟩
theorem do5 (h : Dsk P w B d K) (o : Op5) (ho : o.Ok) (hk : o.kind = 5) : Calls Try.prog 26 #[.pointer (some ⟨B, 0, none⟩), .string o.nm] w (DoPost P w B (doP d o) K) := (remove_any h o.nm ho.n).mono fun e w' x => by
  unfold doP
  rw [if_neg (by omega), if_neg (by omega), if_neg (by omega), if_neg (by omega), if_pos hk]
  rcases x with ⟨h1, h2, h3⟩ | ⟨h1, f, hf, h2, h3⟩
  · rw [if_neg h1]; exact ⟨_, h2, dkto_no h h3⟩
  · rw [if_pos h1]; unfold dropN; rw [hf]; exact ⟨0, h2, h3.up (Nat.le_succ K)⟩
theorem do6 (h : Dsk P w B d K) (o : Op5) (ho : o.Ok) (hk : o.kind = 6) : Calls Try.prog 27 #[.pointer (some ⟨B, 0, none⟩), .string o.nm] w (DoPost P w B (doP d o) K) := (dsync_any h o.nm ho.n).mono fun e w' x => by
  unfold doP
  rw [if_neg (by omega), if_neg (by omega), if_neg (by omega), if_neg (by omega), if_neg (by omega), if_pos hk]
  rcases x with ⟨h1, h2, h3⟩ | ⟨h1, f, hf, h2, h3⟩
  · rw [if_neg h1]; exact ⟨_, h2, dkto_no h h3⟩
  · rw [if_pos h1]; unfold onI; rw [hf]; exact ⟨0, h2, h3.up (Nat.le_succ K)⟩
theorem doP7 (d : Dk) (o : Op5) (hk : o.kind = 7) : doP d o = Sf.crash d o.keep := by
  unfold doP
  rw [if_neg (by omega), if_neg (by omega), if_neg (by omega), if_neg (by omega), if_neg (by omega), if_neg (by omega), if_pos hk]
theorem doP0 (d : Dk) (o : Op5) (h : ¬ (o.kind = 1 ∨ o.kind = 2 ∨ o.kind = 3 ∨ o.kind = 4 ∨ o.kind = 5 ∨ o.kind = 6 ∨ o.kind = 7)) : doP d o = d := by
  unfold doP
  rw [if_neg (by omega), if_neg (by omega), if_neg (by omega), if_neg (by omega), if_neg (by omega), if_neg (by omega), if_neg (by omega)]
theorem lat_conv (w : World) (s : ByteArray) (hs : s.size ≤ maxLen) : LAt (Lib.bytesWorld w 5 s) (.slice (some ⟨w.heap.size, 0, none⟩) s.size (grownCap w s.size 0 5)) (uv s.data.toList) := by
  have hl : (uv s.data.toList).length = s.size := by rw [uv_len]; simp
  refine ⟨_, _, by rw [hl], by rw [hl]; exact grownCap_ge _ _ _ _, ?_, .inr ⟨w.heap.size, 0, rfl, fun k v hv => ?_⟩⟩
  · have := grownCap_le_maxLen w s.size 0 5 hs
    unfold maxLen at this
    omega
  · have hk : k < s.size := by rw [← hl]; exact (List.getElem?_eq_some_iff.1 hv).1
    rw [Nat.zero_add, Lib.bytesWorld_cell w 5 s k hk, ← hv]
    have hk2 : k < s.data.toList.length := by simpa using hk
    unfold uv
    rw [List.getElem?_map, List.getElem?_eq_getElem hk2, List.getD_eq_getElem?_getD, List.getElem?_eq_getElem hk2]
    rfl
theorem below_conv (w : World) (s : ByteArray) : Below w.heap.size w (Lib.bytesWorld w 5 s) := ⟨rfl, rfl, rfl, by rw [Lib.bytesWorld_size]; omega, fun k hk => Lib.bytesWorld_at_old w 5 s k hk⟩
end
set_option maxRecDepth 8000 in
set_option maxHeartbeats 2000000 in
theorem does_any {P : Nat → Prop} {w : World} {B K : Nat} {d : Dk} (h : Dsk P w B d K) (o : Op5) (ho : o.Ok) (hkv : LAtX (fun k => ¬ P k) w o.kv (ints o.keep)) :
    Calls Try.prog 6 #[.pointer (some ⟨B, 0, none⟩), .agg o.cells] w fun e w' => e = .returned (.tuple #[]) ∧ DkTo P w B (doP d o) (K + 1) w' := by
  obtain ⟨w1, hw1⟩ : ∃ w1, w.alloc (.cells o.cells 36) = w1 := ⟨_, rfl⟩
  have k1 : Below w.heap.size w w1 := by rw [← hw1]; exact (Below.refl _ _).alloc (Nat.le_refl _) _
  obtain ⟨A, hA⟩ : ∃ A, w.heap.size = A := ⟨_, rfl⟩
  have op1 : w1.heap[A]? = some (.cells o.cells 36 (0, 0)) := by rw [← hw1, ← hA]; exact heap_alloc_new w _
  have HW : Hid (w.alloc (.cells o.cells 36) = w1 ∧ w.heap.size = A) := ⟨hw1, hA⟩
  have HD1 : Hid (Dsk P w1 B d K ∧ o.Ok) := ⟨h.later k1, ho⟩
  have HEND : Hid (∀ d' u, DkTo P w1 B d' (K + 1) u → DkTo P w B d' (K + 1) u) := fun d' u x => DkTo.of_below h.m.low k1 x
  have hkv1 : LAtX (fun k => ¬ P k) w1 o.kv (ints o.keep) := ⟨hkv.1.later k1, hkv.2⟩
  have HCR : Hid (o.kind = 7 → Calls Try.prog 28 #[.pointer (some ⟨B, 0, none⟩), o.kv] w1 fun e w' => e = .returned (.tuple #[]) ∧ DkTo P w1 B (doP d o) (K + 1) w') := fun hk => (dcrash_any HD1.out.1 hkv1 ho.k).mono (fun e w' x => ⟨x.1, by rw [doP7 d o hk]; exact x.2.up (Nat.le_succ K)⟩)
  have HNO : Hid (¬ (o.kind = 1 ∨ o.kind = 2 ∨ o.kind = 3 ∨ o.kind = 4 ∨ o.kind = 5 ∨ o.kind = 6 ∨ o.kind = 7) → DkTo P w B (doP d o) (K + 1) w1) := fun hk => by rw [doP0 d o hk]; exact dkto_no h k1
  obtain ⟨ka, kc, hkf⟩ := lat_len hkv.1
  obtain ⟨o', hoe⟩ : ∃ o', o = o' := ⟨_, rfl⟩
  have HOE : Hid (o = o') := hoe
  have H1 : Hid (o.kind = 1 → Calls Try.prog 20 #[.pointer (some ⟨B, 0, none⟩), .string o.nm] w1 (DoPost P w1 B (doP d o) K)) := fun hk => do1 HD1.out.1 o ho hk
  have H2 : Hid (o.kind = 2 → ∀ u Y, Below w1.heap.size w1 u → LAt u Y (uv o.dt.data.toList) → Calls Try.prog 21 #[.pointer (some ⟨B, 0, none⟩), .string o.nm, Y] u (DoPost P u B (doP d o) K)) := fun hk u Y hu hY => do2 (HD1.out.1.later hu) o ho hk hY
  have HLO : Hid (∀ k, P k → k < w1.heap.size) := HD1.out.1.m.low
  have H3 : Hid (o.kind = 3 → Calls Try.prog 24 #[.pointer (some ⟨B, 0, none⟩), .string o.nm] w1 (DoPost P w1 B (doP d o) K)) := fun hk => do3 HD1.out.1 o ho hk
  have H4 : Hid (o.kind = 4 → Calls Try.prog 25 #[.pointer (some ⟨B, 0, none⟩), .string o.nm, .string o.ot] w1 (DoPost P w1 B (doP d o) K)) := fun hk => do4 HD1.out.1 o ho hk
  have H5 : Hid (o.kind = 5 → Calls Try.prog 26 #[.pointer (some ⟨B, 0, none⟩), .string o.nm] w1 (DoPost P w1 B (doP d o) K)) := fun hk => do5 HD1.out.1 o ho hk
  have H6 : Hid (o.kind = 6 → Calls Try.prog 27 #[.pointer (some ⟨B, 0, none⟩), .string o.nm] w1 (DoPost P w1 B (doP d o) K)) := fun hk => do6 HD1.out.1 o ho hk
  have hdt := ho.d
  clear h ho hkv hkv1 hw1 hA k1 hoe
  obtain ⟨dn, hdn⟩ : ∃ dn, doP d o = dn := ⟨_, rfl⟩
  rw [hdn] at H1 H2 H3 H4 H5 H6 HCR HNO ⊢
  clear hdn HD1
  obtain ⟨kind, nm, ot, dt, kv, keep, ino, gen, off⟩ := o
  unfold Op5.cells at HW op1 ⊢
  simp only at *
  subst hkf
  obtain ⟨nk, hnk⟩ : ∃ nk, (ints keep).length = nk := ⟨_, rfl⟩
  rw [hnk] at HW op1 HCR ⊢
  have c0 : w1.cell? ⟨A, 0, none⟩ = some (.int .i64 kind) := by simp [World.cell?, op1]
  have c1 : w1.cell? ⟨A, 1, none⟩ = some (.string nm) := by simp [World.cell?, op1]
  have c2 : w1.cell? ⟨A, 2, none⟩ = some (.string ot) := by simp [World.cell?, op1]
  have c3 : w1.cell? ⟨A, 3, none⟩ = some (.string dt) := by simp [World.cell?, op1]
  have c4 : w1.cell? ⟨A, 4, none⟩ = some (.slice ka nk kc) := by simp [World.cell?, op1]
  clear op1 hnk HOE
  by_cases e1 : kind = 1
  · have t1 : (kind == (1 : Int)) = true := by simp; omega
    have HC : Hid (Calls Try.prog 20 #[.pointer (some ⟨B, 0, none⟩), .string nm] w1 (DoPost P w1 B dn K)) := H1.out e1
    clear H1 H2 H3 H4 H5 H6 HCR HNO e1
    go_enter Try.func6, Try.ntmps6
    go_upto_region 1 with fail
    rw [HW.out.1, HW.out.2]
    go_wp2_with fail
    refine HC.out.mono ?_
    rintro e w2 ⟨x, rfl, hd⟩
    have HP : Hid (DkTo P w B dn (K + 1) w2) := HEND.out _ _ hd
    clear HC hd
    go_wp2_with fail
    first | go_end0 | (simp only [Exit.inBlock, Exit.then]; refine bodyPost_ret (results_none rfl _ _ _) rfl ?_) | refine bodyPost_ret (results_none rfl _ _ _) rfl ?_
    exact ⟨rfl, HP.out⟩
  by_cases e2 : kind = 2
  · have t1 : (kind == (1 : Int)) = false := by simp; omega
    have t2 : (kind == (2 : Int)) = true := by simp; omega
    have hcv := Lib.run_convert_string_bytes (P := Try.prog) w1 9 63 5 dt Try.underlying9 (by kernel_rfl) Try.underlying5
    have HC := H2.out e2 (Lib.bytesWorld w1 5 dt) _ (below_conv w1 dt) (lat_conv w1 dt hdt)
    have HC : Hid (Calls Try.prog 21 #[.pointer (some ⟨B, 0, none⟩), .string nm, .slice (some ⟨w1.heap.size, 0, none⟩) dt.size (grownCap w1 dt.size 0 5)] (Lib.bytesWorld w1 5 dt) _) := HC
    have HBC : Hid (Below w1.heap.size w1 (Lib.bytesWorld w1 5 dt)) := below_conv w1 dt
    clear H1 H2 H3 H4 H5 H6 HCR HNO e1 e2
    go_enter Try.func6, Try.ntmps6
    go_upto_region 1 with fail
    rw [HW.out.1, HW.out.2]
    go_wp2_with fail
    refine HC.out.mono ?_
    rintro e w2 ⟨x, rfl, hd⟩
    have HP : Hid (DkTo P w B dn (K + 1) w2) := HEND.out _ _ (DkTo.of_below HLO.out HBC.out hd)
    clear HC hd
    go_wp2_with fail
    first | go_end0 | (simp only [Exit.inBlock, Exit.then]; refine bodyPost_ret (results_none rfl _ _ _) rfl ?_) | refine bodyPost_ret (results_none rfl _ _ _) rfl ?_
    exact ⟨rfl, HP.out⟩
  by_cases e3 : kind = 3
  · have t1 : (kind == (1 : Int)) = false := by simp; omega
    have t2 : (kind == (2 : Int)) = false := by simp; omega
    have t3 : (kind == (3 : Int)) = true := by simp; omega
    have HC : Hid (Calls Try.prog 24 #[.pointer (some ⟨B, 0, none⟩), .string nm] w1 (DoPost P w1 B dn K)) := H3.out e3
    clear H1 H2 H3 H4 H5 H6 HCR HNO e1 e2 e3
    go_enter Try.func6, Try.ntmps6
    go_upto_region 1 with fail
    rw [HW.out.1, HW.out.2]
    go_wp2_with fail
    refine HC.out.mono ?_
    rintro e w2 ⟨x, rfl, hd⟩
    have HP : Hid (DkTo P w B dn (K + 1) w2) := HEND.out _ _ hd
    clear HC hd
    go_wp2_with fail
    first | go_end0 | (simp only [Exit.inBlock, Exit.then]; refine bodyPost_ret (results_none rfl _ _ _) rfl ?_) | refine bodyPost_ret (results_none rfl _ _ _) rfl ?_
    exact ⟨rfl, HP.out⟩
  by_cases e4 : kind = 4
  · have t1 : (kind == (1 : Int)) = false := by simp; omega
    have t2 : (kind == (2 : Int)) = false := by simp; omega
    have t3 : (kind == (3 : Int)) = false := by simp; omega
    have t4 : (kind == (4 : Int)) = true := by simp; omega
    have HC : Hid (Calls Try.prog 25 #[.pointer (some ⟨B, 0, none⟩), .string nm, .string ot] w1 (DoPost P w1 B dn K)) := H4.out e4
    clear H1 H2 H3 H4 H5 H6 HCR HNO e1 e2 e3 e4
    go_enter Try.func6, Try.ntmps6
    go_upto_region 1 with fail
    rw [HW.out.1, HW.out.2]
    go_wp2_with fail
    refine HC.out.mono ?_
    rintro e w2 ⟨x, rfl, hd⟩
    have HP : Hid (DkTo P w B dn (K + 1) w2) := HEND.out _ _ hd
    clear HC hd
    go_wp2_with fail
    first | go_end0 | (simp only [Exit.inBlock, Exit.then]; refine bodyPost_ret (results_none rfl _ _ _) rfl ?_) | refine bodyPost_ret (results_none rfl _ _ _) rfl ?_
    exact ⟨rfl, HP.out⟩
  by_cases e5 : kind = 5
  · have t1 : (kind == (1 : Int)) = false := by simp; omega
    have t2 : (kind == (2 : Int)) = false := by simp; omega
    have t3 : (kind == (3 : Int)) = false := by simp; omega
    have t4 : (kind == (4 : Int)) = false := by simp; omega
    have t5 : (kind == (5 : Int)) = true := by simp; omega
    have HC : Hid (Calls Try.prog 26 #[.pointer (some ⟨B, 0, none⟩), .string nm] w1 (DoPost P w1 B dn K)) := H5.out e5
    clear H1 H2 H3 H4 H5 H6 HCR HNO e1 e2 e3 e4 e5
    go_enter Try.func6, Try.ntmps6
    go_upto_region 1 with fail
    rw [HW.out.1, HW.out.2]
    go_wp2_with fail
    refine HC.out.mono ?_
    rintro e w2 ⟨x, rfl, hd⟩
    have HP : Hid (DkTo P w B dn (K + 1) w2) := HEND.out _ _ hd
    clear HC hd
    go_wp2_with fail
    first | go_end0 | (simp only [Exit.inBlock, Exit.then]; refine bodyPost_ret (results_none rfl _ _ _) rfl ?_) | refine bodyPost_ret (results_none rfl _ _ _) rfl ?_
    exact ⟨rfl, HP.out⟩
  by_cases e6 : kind = 6
  · have t1 : (kind == (1 : Int)) = false := by simp; omega
    have t2 : (kind == (2 : Int)) = false := by simp; omega
    have t3 : (kind == (3 : Int)) = false := by simp; omega
    have t4 : (kind == (4 : Int)) = false := by simp; omega
    have t5 : (kind == (5 : Int)) = false := by simp; omega
    have t6 : (kind == (6 : Int)) = true := by simp; omega
    have HC : Hid (Calls Try.prog 27 #[.pointer (some ⟨B, 0, none⟩), .string nm] w1 (DoPost P w1 B dn K)) := H6.out e6
    clear H1 H2 H3 H4 H5 H6 HCR HNO e1 e2 e3 e4 e5 e6
    go_enter Try.func6, Try.ntmps6
    go_upto_region 1 with fail
    rw [HW.out.1, HW.out.2]
    go_wp2_with fail
    refine HC.out.mono ?_
    rintro e w2 ⟨x, rfl, hd⟩
    have HP : Hid (DkTo P w B dn (K + 1) w2) := HEND.out _ _ hd
    clear HC hd
    go_wp2_with fail
    first | go_end0 | (simp only [Exit.inBlock, Exit.then]; refine bodyPost_ret (results_none rfl _ _ _) rfl ?_) | refine bodyPost_ret (results_none rfl _ _ _) rfl ?_
    exact ⟨rfl, HP.out⟩
  by_cases e7 : kind = 7
  · have t1 : (kind == (1 : Int)) = false := by simp; omega
    have t2 : (kind == (2 : Int)) = false := by simp; omega
    have t3 : (kind == (3 : Int)) = false := by simp; omega
    have t4 : (kind == (4 : Int)) = false := by simp; omega
    have t5 : (kind == (5 : Int)) = false := by simp; omega
    have t6 : (kind == (6 : Int)) = false := by simp; omega
    have t7 : (kind == (7 : Int)) = true := by simp; omega
    have HC : Hid (Calls Try.prog 28 #[.pointer (some ⟨B, 0, none⟩), .slice ka nk kc] w1 fun e w' => e = .returned (.tuple #[]) ∧ DkTo P w1 B dn (K + 1) w') := HCR.out e7
    clear H1 H2 H3 H4 H5 H6 HCR HNO e1 e2 e3 e4 e5 e6 e7
    go_enter Try.func6, Try.ntmps6
    go_upto_region 1 with fail
    rw [HW.out.1, HW.out.2]
    go_wp2_with fail
    refine HC.out.mono ?_
    rintro e w2 ⟨rfl, hd⟩
    have HP : Hid (DkTo P w B dn (K + 1) w2) := HEND.out _ _ hd
    clear HC hd
    go_wp2_with fail
    first | go_end0 | (simp only [Exit.inBlock, Exit.then]; refine bodyPost_ret (results_none rfl _ _ _) rfl ?_) | refine bodyPost_ret (results_none rfl _ _ _) rfl ?_
    exact ⟨rfl, HP.out⟩
  have t1 : (kind == (1 : Int)) = false := by simp; omega
  have t2 : (kind == (2 : Int)) = false := by simp; omega
  have t3 : (kind == (3 : Int)) = false := by simp; omega
  have t4 : (kind == (4 : Int)) = false := by simp; omega
  have t5 : (kind == (5 : Int)) = false := by simp; omega
  have t6 : (kind == (6 : Int)) = false := by simp; omega
  have t7 : (kind == (7 : Int)) = false := by simp; omega
  have HP : Hid (DkTo P w B dn (K + 1) w1) := HNO.out (by omega)
  clear H1 H2 H3 H4 H5 H6 HCR HNO e1 e2 e3 e4 e5 e6 e7
  go_enter Try.func6, Try.ntmps6
  go_upto_region 1 with fail
  rw [HW.out.1, HW.out.2]
  go_wp2_with fail
  first | go_end0 | (simp only [Exit.inBlock, Exit.then]; refine bodyPost_ret (results_none rfl _ _ _) rfl ?_) | refine bodyPost_ret (results_none rfl _ _ _) rfl ?_
  exact ⟨rfl, HP.out⟩
end Go.Proofs.Ytobbcgendjakiaa
