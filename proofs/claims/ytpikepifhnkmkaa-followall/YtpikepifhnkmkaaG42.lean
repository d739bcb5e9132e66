/- heronlaw17: mod, does, ahead (typed by gen/fodow.py). -/
import Derived.Test.YtpikepifhnkmkaaG35
namespace Go.Proofs.Ytpikepifhnkmkaa
open Go.RowKit Go.Maps Sf Ln Fo
attribute [local go_sem ↓] Go.wp_at_zero Go.wp_at_succ

theorem mod_fn {k : Int} {n : Nat} (w : World) (hk : goodI k) (h0 : 0 < n) (hn : n ≤ 1000) : Calls Try.prog 6 #[.int .i64 k, .int .i64 (n : Nat)] w fun e w' => ∃ m : Nat, e = .returned (.int .i64 (m : Nat)) ∧ m < n ∧ w' = w := by
  unfold goodI at hk
  obtain ⟨k1, k2⟩ := hk
  have hz : (n : Int) ≠ 0 := by omega
  have hb1 : -(n : Int) < k.tmod n ∧ k.tmod n < n := by
    have h1 := Int.tmod_lt_of_pos k (b := (n : Int)) (by omega)
    have h2 := Int.lt_tmod_of_pos k (b := (n : Int)) (by omega)
    exact ⟨h2, h1⟩
  obtain ⟨b1, b2⟩ := hb1
  by_cases h : k.tmod (n : Int) < 0
  · obtain ⟨m, hm⟩ : ∃ m : Nat, k.tmod (n : Int) + (n : Int) = (m : Nat) := Int.eq_ofNat_of_zero_le (by omega)
    have HE : Hid ((Value.int .i64 (k.tmod (n : Int) + (n : Int)) : Value) = .int .i64 (m : Nat) ∧ m < n) := ⟨by rw [hm], by omega⟩
    clear hm
    go_enter Try.func6, Try.ntmps6
    go_wp2
    go_ret
    exact ⟨m, congrArg Ending.returned HE.out.1, HE.out.2, rfl⟩
  · obtain ⟨m, hm⟩ : ∃ m : Nat, k.tmod (n : Int) = (m : Nat) := Int.eq_ofNat_of_zero_le (by omega)
    have HE : Hid ((Value.int .i64 (k.tmod (n : Int)) : Value) = .int .i64 (m : Nat) ∧ m < n) := ⟨by rw [hm], by omega⟩
    clear hm
    go_enter Try.func6, Try.ntmps6
    go_wp2
    go_ret
    exact ⟨m, congrArg Ending.returned HE.out.1, HE.out.2, rfl⟩
theorem lat_len {w : World} {V : Value} {xs : List Value} (h : LAt w V xs) : ∃ a c, V = .slice a xs.length c := by
  obtain ⟨a, c, e, _⟩ := h
  exact ⟨a, c, e⟩
/-- an op of the law's, as it lies in memory -/
structure Op7 where
  e : Evt
  kv : Value
  n : Int
  m : Mrk
def Op7.cells (o : Op7) : Array Value := #[.int .i64 o.e.kind, .string o.e.a, .string o.e.b, .string o.e.s, o.kv, .int .i64 o.n, .int .i64 o.m.s, .int .i64 o.m.n, .int .i64 o.m.g, .int .i64 o.m.o, .int .i64 o.m.ms, .int .i64 o.m.gn, .int .i64 o.m.ct, .int .i64 o.m.tl, .int .i64 o.m.lg]
set_option maxRecDepth 8000 in
set_option maxHeartbeats 2000000 in
theorem does_any {P : Nat → Prop} {w : World} {B K : Nat} {d : Dk} (h : Dsk P w B d K) (o : Op7) (ho : o.e.Ok) (hkv : LAtX (fun k => ¬ P k) w o.kv (ints o.e.keep)) (hkl : o.e.keep.length ≤ 17592186043904) :
    Calls Try.prog 15 #[.pointer (some ⟨B, 0, none⟩), .agg o.cells] w fun e w' => e = .returned (.tuple #[]) ∧ DkTo P w B (doE d o.e) (K + 1) w' := by
  obtain ⟨w1, hw1⟩ : ∃ w1, w.alloc (.cells o.cells 53) = w1 := ⟨_, rfl⟩
  have k1 : Below w.heap.size w w1 := by rw [← hw1]; exact (Below.refl _ _).alloc (Nat.le_refl _) _
  obtain ⟨A, hA⟩ : ∃ A, w.heap.size = A := ⟨_, rfl⟩
  have op1 : w1.heap[A]? = some (.cells o.cells 53 (0, 0)) := by rw [← hw1, ← hA]; exact heap_alloc_new w _
  have HW : Hid (w.alloc (.cells o.cells 53) = w1 ∧ w.heap.size = A) := ⟨hw1, hA⟩
  have HD1 : Hid (Dsk P w1 B d K ∧ o.e.Ok) := ⟨h.later k1, ho⟩
  have HEND : Hid (∀ d' u, DkTo P w1 B d' (K + 1) u → DkTo P w B d' (K + 1) u) := fun d' u x => DkTo.of_below h.m.low k1 x
  have hkv1 : LAtX (fun k => ¬ P k) w1 o.kv (ints o.e.keep) := ⟨hkv.1.later k1, hkv.2⟩
  obtain ⟨keep, hkeep⟩ : ∃ keep, o.e.keep = keep := ⟨_, rfl⟩
  have HKV : Hid (LAtX (fun k => ¬ P k) w1 o.kv (ints keep) ∧ keep.length ≤ 17592186043904) := by rw [← hkeep]; exact ⟨hkv1, hkl⟩
  have HCR : Hid (o.e.kind = 6 → ∀ u Kv, Below w1.heap.size w1 u → LAtX (fun k => ¬ P k) u Kv (ints keep) → Calls Try.prog 33 #[.pointer (some ⟨B, 0, none⟩), Kv] u fun e w' => e = .returned (.tuple #[]) ∧ DkTo P u B (doE d o.e) (K + 1) w') := fun hk u Kv hu hl => (dcrash_any (HD1.out.1.later hu) (by rw [← hkeep] at hl; exact hl) ho.k).mono (fun e w' x => ⟨x.1, by rw [doE6 d o.e hk]; exact x.2.up (Nat.le_succ K)⟩)
  have HNO : Hid (¬ (o.e.kind = 0 ∨ o.e.kind = 1 ∨ o.e.kind = 2 ∨ o.e.kind = 3 ∨ o.e.kind = 4 ∨ o.e.kind = 5 ∨ o.e.kind = 6) → DkTo P w B (doE d o.e) (K + 1) w1) := fun hk => by rw [doE0 d o.e hk]; exact dkto_no h k1
  obtain ⟨ka, kc, hkf⟩ := lat_len hkv.1
  rw [hkeep] at hkf
  have H1 : Hid (o.e.kind = 0 → Calls Try.prog 10 #[.pointer (some ⟨B, 0, none⟩), .string o.e.a] w1 (DoPost P w1 B (doE d o.e) K)) := fun hk => do1 HD1.out.1 o.e ho hk
  have H2 : Hid (o.e.kind = 1 → ∀ u Y, Below w1.heap.size w1 u → LAt u Y (uv o.e.s.data.toList) → Calls Try.prog 12 #[.pointer (some ⟨B, 0, none⟩), .string o.e.a, Y] u (DoPost P u B (doE d o.e) K)) := fun hk u Y hu hY => do2 (HD1.out.1.later hu) o.e ho hk hY
  have HLO : Hid (∀ k, P k → k < w1.heap.size) := HD1.out.1.m.low
  have H3 : Hid (o.e.kind = 2 → Calls Try.prog 30 #[.pointer (some ⟨B, 0, none⟩), .string o.e.a] w1 (DoPost P w1 B (doE d o.e) K)) := fun hk => do3 HD1.out.1 o.e ho hk
  have H4 : Hid (o.e.kind = 3 → Calls Try.prog 9 #[.pointer (some ⟨B, 0, none⟩), .string o.e.a, .string o.e.b] w1 (DoPost P w1 B (doE d o.e) K)) := fun hk => do4 HD1.out.1 o.e ho hk
  have H5 : Hid (o.e.kind = 4 → Calls Try.prog 31 #[.pointer (some ⟨B, 0, none⟩), .string o.e.a] w1 (DoPost P w1 B (doE d o.e) K)) := fun hk => do5 HD1.out.1 o.e ho hk
  have H6 : Hid (o.e.kind = 5 → Calls Try.prog 32 #[.pointer (some ⟨B, 0, none⟩), .string o.e.a] w1 (DoPost P w1 B (doE d o.e) K)) := fun hk => do6 HD1.out.1 o.e ho hk
  have hdt := ho.s
  clear h ho hkv hkv1 hw1 hA k1 hkl
  obtain ⟨dn, hdn⟩ : ∃ dn, doE d o.e = dn := ⟨_, rfl⟩
  rw [hdn] at H1 H2 H3 H4 H5 H6 HCR HNO ⊢
  clear hdn HD1
  obtain ⟨⟨kind, nm, ot, dt, keep'⟩, kv, on, om⟩ := o
  unfold Op7.cells at HW op1 ⊢
  simp only at *
  subst hkf hkeep
  obtain ⟨nk, hnk⟩ : ∃ nk, (ints keep').length = nk := ⟨_, rfl⟩
  have HNK : Hid ((ints keep').length = nk ∧ nk ≤ 17592186043904) := ⟨hnk, by rw [← hnk, ints_len]; exact HKV.out.2⟩
  rw [hnk] at HW op1 HKV ⊢
  have c0 : w1.cell? ⟨A, 0, none⟩ = some (.int .i64 kind) := by simp [World.cell?, op1]
  have c1 : w1.cell? ⟨A, 1, none⟩ = some (.string nm) := by simp [World.cell?, op1]
  have c2 : w1.cell? ⟨A, 2, none⟩ = some (.string ot) := by simp [World.cell?, op1]
  have c3 : w1.cell? ⟨A, 3, none⟩ = some (.string dt) := by simp [World.cell?, op1]
  have c4 : w1.cell? ⟨A, 4, none⟩ = some (.slice ka nk kc) := by simp [World.cell?, op1]
  clear op1 hnk
  by_cases e0 : kind = 0
  · have t0 : (kind == (0 : Int)) = true := by simp; omega
    have HC : Hid (Calls Try.prog 10 #[.pointer (some ⟨B, 0, none⟩), .string nm] w1 (DoPost P w1 B dn K)) := H1.out e0
    clear H1 H2 H3 H4 H5 H6 HCR HNO HKV HNK e0
    go_enter Try.func15, Try.ntmps15
    go_upto_region 1 with fail
    rw [HW.out.1, HW.out.2]
    go_wp2_with fail
    refine HC.out.mono ?_
    rintro e w2 ⟨x, rfl, hd⟩
    have HP : Hid (DkTo P w B dn (K + 1) w2) := HEND.out _ _ hd
    clear HC hd
    go_wp2_with fail
    first | go_end0 | (simp only [Exit.inBlock, Exit.then]; refine bodyPost_ret (results_none rfl _ _ _) rfl ?_) | refine bodyPost_ret (results_none rfl _ _ _) rfl ?_
    exact ⟨rfl, HP.out⟩
  by_cases e1 : kind = 1
  · have t0 : (kind == (0 : Int)) = false := by simp; omega
    have t1 : (kind == (1 : Int)) = true := by simp; omega
    have hcv := Lib.run_convert_string_bytes (P := Try.prog) w1 9 46 5 dt Try.underlying9 (by kernel_rfl) Try.underlying5
    have HC := H2.out e1 (Lib.bytesWorld w1 5 dt) _ (below_conv w1 dt) (lat_conv w1 dt hdt)
    have HC : Hid (Calls Try.prog 12 #[.pointer (some ⟨B, 0, none⟩), .string nm, .slice (some ⟨w1.heap.size, 0, none⟩) dt.size (grownCap w1 dt.size 0 5)] (Lib.bytesWorld w1 5 dt) _) := HC
    have HBC : Hid (Below w1.heap.size w1 (Lib.bytesWorld w1 5 dt)) := below_conv w1 dt
    clear H1 H2 H3 H4 H5 H6 HCR HNO HKV HNK e0 e1
    go_enter Try.func15, Try.ntmps15
    go_upto_region 1 with fail
    rw [HW.out.1, HW.out.2]
    go_wp2_with fail
    refine HC.out.mono ?_
    rintro e w2 ⟨x, rfl, hd⟩
    have HP : Hid (DkTo P w B dn (K + 1) w2) := HEND.out _ _ (DkTo.of_below HLO.out HBC.out hd)
    clear HC hd
    go_wp2_with fail
    first | go_end0 | (simp only [Exit.inBlock, Exit.then]; refine bodyPost_ret (results_none rfl _ _ _) rfl ?_) | refine bodyPost_ret (results_none rfl _ _ _) rfl ?_
    exact ⟨rfl, HP.out⟩
  by_cases e2 : kind = 2
  · have t0 : (kind == (0 : Int)) = false := by simp; omega
    have t1 : (kind == (1 : Int)) = false := by simp; omega
    have t2 : (kind == (2 : Int)) = true := by simp; omega
    have HC : Hid (Calls Try.prog 30 #[.pointer (some ⟨B, 0, none⟩), .string nm] w1 (DoPost P w1 B dn K)) := H3.out e2
    clear H1 H2 H3 H4 H5 H6 HCR HNO HKV HNK e0 e1 e2
    go_enter Try.func15, Try.ntmps15
    go_upto_region 1 with fail
    rw [HW.out.1, HW.out.2]
    go_wp2_with fail
    refine HC.out.mono ?_
    rintro e w2 ⟨x, rfl, hd⟩
    have HP : Hid (DkTo P w B dn (K + 1) w2) := HEND.out _ _ hd
    clear HC hd
    go_wp2_with fail
    first | go_end0 | (simp only [Exit.inBlock, Exit.then]; refine bodyPost_ret (results_none rfl _ _ _) rfl ?_) | refine bodyPost_ret (results_none rfl _ _ _) rfl ?_
    exact ⟨rfl, HP.out⟩
  by_cases e3 : kind = 3
  · have t0 : (kind == (0 : Int)) = false := by simp; omega
    have t1 : (kind == (1 : Int)) = false := by simp; omega
    have t2 : (kind == (2 : Int)) = false := by simp; omega
    have t3 : (kind == (3 : Int)) = true := by simp; omega
    have HC : Hid (Calls Try.prog 9 #[.pointer (some ⟨B, 0, none⟩), .string nm, .string ot] w1 (DoPost P w1 B dn K)) := H4.out e3
    clear H1 H2 H3 H4 H5 H6 HCR HNO HKV HNK e0 e1 e2 e3
    go_enter Try.func15, Try.ntmps15
    go_upto_region 1 with fail
    rw [HW.out.1, HW.out.2]
    go_wp2_with fail
    refine HC.out.mono ?_
    rintro e w2 ⟨x, rfl, hd⟩
    have HP : Hid (DkTo P w B dn (K + 1) w2) := HEND.out _ _ hd
    clear HC hd
    go_wp2_with fail
    first | go_end0 | (simp only [Exit.inBlock, Exit.then]; refine bodyPost_ret (results_none rfl _ _ _) rfl ?_) | refine bodyPost_ret (results_none rfl _ _ _) rfl ?_
    exact ⟨rfl, HP.out⟩
  by_cases e4 : kind = 4
  · have t0 : (kind == (0 : Int)) = false := by simp; omega
    have t1 : (kind == (1 : Int)) = false := by simp; omega
    have t2 : (kind == (2 : Int)) = false := by simp; omega
    have t3 : (kind == (3 : Int)) = false := by simp; omega
    have t4 : (kind == (4 : Int)) = true := by simp; omega
    have HC : Hid (Calls Try.prog 31 #[.pointer (some ⟨B, 0, none⟩), .string nm] w1 (DoPost P w1 B dn K)) := H5.out e4
    clear H1 H2 H3 H4 H5 H6 HCR HNO HKV HNK e0 e1 e2 e3 e4
    go_enter Try.func15, Try.ntmps15
    go_upto_region 1 with fail
    rw [HW.out.1, HW.out.2]
    go_wp2_with fail
    refine HC.out.mono ?_
    rintro e w2 ⟨x, rfl, hd⟩
    have HP : Hid (DkTo P w B dn (K + 1) w2) := HEND.out _ _ hd
    clear HC hd
    go_wp2_with fail
    first | go_end0 | (simp only [Exit.inBlock, Exit.then]; refine bodyPost_ret (results_none rfl _ _ _) rfl ?_) | refine bodyPost_ret (results_none rfl _ _ _) rfl ?_
    exact ⟨rfl, HP.out⟩
  by_cases e5 : kind = 5
  · have t0 : (kind == (0 : Int)) = false := by simp; omega
    have t1 : (kind == (1 : Int)) = false := by simp; omega
    have t2 : (kind == (2 : Int)) = false := by simp; omega
    have t3 : (kind == (3 : Int)) = false := by simp; omega
    have t4 : (kind == (4 : Int)) = false := by simp; omega
    have t5 : (kind == (5 : Int)) = true := by simp; omega
    have HC : Hid (Calls Try.prog 32 #[.pointer (some ⟨B, 0, none⟩), .string nm] w1 (DoPost P w1 B dn K)) := H6.out e5
    clear H1 H2 H3 H4 H5 H6 HCR HNO HKV HNK e0 e1 e2 e3 e4 e5
    go_enter Try.func15, Try.ntmps15
    go_upto_region 1 with fail
    rw [HW.out.1, HW.out.2]
    go_wp2_with fail
    refine HC.out.mono ?_
    rintro e w2 ⟨x, rfl, hd⟩
    have HP : Hid (DkTo P w B dn (K + 1) w2) := HEND.out _ _ hd
    clear HC hd
    go_wp2_with fail
    first | go_end0 | (simp only [Exit.inBlock, Exit.then]; refine bodyPost_ret (results_none rfl _ _ _) rfl ?_) | refine bodyPost_ret (results_none rfl _ _ _) rfl ?_
    exact ⟨rfl, HP.out⟩
  by_cases e6 : kind = 6
  · have t0 : (kind == (0 : Int)) = false := by simp; omega
    have t1 : (kind == (1 : Int)) = false := by simp; omega
    have t2 : (kind == (2 : Int)) = false := by simp; omega
    have t3 : (kind == (3 : Int)) = false := by simp; omega
    have t4 : (kind == (4 : Int)) = false := by simp; omega
    have t5 : (kind == (5 : Int)) = false := by simp; omega
    have t6 : (kind == (6 : Int)) = true := by simp; omega
    have HB : Hid (Below w1.heap.size w1 (w1.alloc (.cells #[] 3))) := (Below.refl _ _).alloc (Nat.le_refl _) _
    have HO : Hid ((w1.alloc (.cells #[] 3)).ownsRow w1.heap.size 3 1 (.slice (some ⟨w1.heap.size, 0, none⟩) 0 0) 0 []) := ⟨rfl, .inr ⟨w1.heap.size, 0, #[], rfl, Nat.le_refl _, heap_alloc_new w1 _, Nat.le_refl _, by decide, rfl, rfl⟩⟩
    have HL2 : Hid (LAt (w1.alloc (.cells #[] 3)) (.slice ka nk kc) (ints keep')) := HKV.out.1.1.later HB.out
    have hnk2 := HNK.out.2
    have c4' := cell_later HB.out _ _ _ c4
    have HC := HCR.out e6
    have HC : Hid (∀ u Kv, Below w1.heap.size w1 u → LAtX (fun k => ¬ P k) u Kv (ints keep') → Calls Try.prog 33 #[.pointer (some ⟨B, 0, none⟩), Kv] u fun e w' => e = .returned (.tuple #[]) ∧ DkTo P u B dn (K + 1) w') := HC
    clear H1 H2 H3 H4 H5 H6 HCR HNO e0 e1 e2 e3 e4 e5 e6
    go_enter Try.func15, Try.ntmps15
    go_upto_region 1 with fail
    rw [HW.out.1, HW.out.2]
    go_wp2_with (first
      | (refine wpList_append_lat rfl (.tmp 50) (.tmp 52) rfl (.int .i64 0) 8 (by kernel_rfl) infI rfl w1.heap.size _ 0 [] rfl HO.out _ (ints keep') rfl HL2.out (fun u hu => by obtain ⟨z, _, rfl⟩ := List.mem_map.1 hu; rfl) (by rw [HNK.out.1]; unfold maxLen; omega) (by rw [HNK.out.1]; omega) HB.out.size ?_; intro V' w3 ho3 hg3 hn3 hh3; rw [HNK.out.1, Nat.zero_add, List.nil_append] at ho3; have HK3 : Hid (Below w1.heap.size w1 w3) := below_app HB.out hg3 (fun k e => by have e2 : some w1.heap.size = some k := e; injection e2 with e2; omega); have HC3' := HC.out w3 V' HK3.out (lx_own ho3 HLO.out); have HCC : Hid (Calls Try.prog 33 #[.pointer (some ⟨B, 0, none⟩), V'] w3 _) := HC3'; obtain ⟨v1, v2, rfl⟩ := own_form ho3; clear ho3 hg3 hn3 hh3 HC3' c4 c4')
      | fail)
    refine HCC.out.mono ?_
    rintro e w2 ⟨rfl, hd⟩
    have HP : Hid (DkTo P w B dn (K + 1) w2) := HEND.out _ _ (DkTo.of_below HLO.out HK3.out hd)
    clear hd HCC HC
    go_wp2_with fail
    first | go_end0 | (simp only [Exit.inBlock, Exit.then]; refine bodyPost_ret (results_none rfl _ _ _) rfl ?_) | refine bodyPost_ret (results_none rfl _ _ _) rfl ?_
    exact ⟨rfl, HP.out⟩
  have t0 : (kind == (0 : Int)) = false := by simp; omega
  have t1 : (kind == (1 : Int)) = false := by simp; omega
  have t2 : (kind == (2 : Int)) = false := by simp; omega
  have t3 : (kind == (3 : Int)) = false := by simp; omega
  have t4 : (kind == (4 : Int)) = false := by simp; omega
  have t5 : (kind == (5 : Int)) = false := by simp; omega
  have t6 : (kind == (6 : Int)) = false := by simp; omega
  have HP : Hid (DkTo P w B dn (K + 1) w1) := HNO.out (by omega)
  clear H1 H2 H3 H4 H5 H6 HCR HNO HKV HNK e0 e1 e2 e3 e4 e5 e6
  go_enter Try.func15, Try.ntmps15
  go_upto_region 1 with fail
  rw [HW.out.1, HW.out.2]
  go_wp2_with fail
  first | go_end0 | (simp only [Exit.inBlock, Exit.then]; refine bodyPost_ret (results_none rfl _ _ _) rfl ?_) | refine bodyPost_ret (results_none rfl _ _ _) rfl ?_
  exact ⟨rfl, HP.out⟩
def mrkBox (m : Mrk) : Value := .agg #[.int .i64 m.s, .int .i64 m.n, .int .i64 m.g, .int .i64 m.o, .int .i64 m.ms, .int .i64 m.gn, .int .i64 m.ct, .int .i64 m.tl, .int .i64 m.lg]
set_option maxRecDepth 8000 in
theorem ahead_fn {w : World} {a b : Mrk} (h : lt3 a b) : Calls Try.prog 18 #[mrkBox a, mrkBox b] w fun e w' => e = .returned (.bool true) ∧ Below w.heap.size w w' := by
  obtain ⟨a1, a2, a3, a4, a5, a6, a7, a8, a9⟩ := a
  obtain ⟨b1, b2, b3, b4, b5, b6, b7, b8, b9⟩ := b
  unfold lt3 at h
  unfold mrkBox
  simp only at h ⊢
  have HB : Hid (∀ x y : Obj, Below w.heap.size w ((w.alloc x).alloc y)) := fun x y => ((Below.refl _ _).alloc (Nat.le_refl _) _).alloc (by simp) _
  rcases h with h | ⟨h, h2⟩
  · have e1 : (a1 != b1) = true := by simp; omega
    go_enter Try.func18, Try.ntmps18
    go_wp2
    go_ret
    exact ⟨rfl, HB.out _ _⟩
  · subst h
    rcases h2 with h | ⟨h, h2⟩
    · have e1 : (a3 != b3) = true := by simp; omega
      go_enter Try.func18, Try.ntmps18
      go_wp2
      go_ret
      exact ⟨rfl, HB.out _ _⟩
    · subst h
      go_enter Try.func18, Try.ntmps18
      go_wp2
      go_ret
      exact ⟨rfl, HB.out _ _⟩
end Go.Proofs.Ytpikepifhnkmkaa
