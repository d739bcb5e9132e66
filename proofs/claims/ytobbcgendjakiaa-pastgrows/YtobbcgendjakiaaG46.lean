/- heronlaw15: PastGrows (typed by gen/pagr.py). -/
import Derived.Test.YtobbcgendjakiaaG45
import Derived.BigRegion
import Derived.Deep.RegionWith
namespace Go.Proofs.Ytobbcgendjakiaa
open Go.RowKit Go.Maps Sf
attribute [local go_sem ↓] Go.wp_at_zero Go.wp_at_succ

theorem infSs : (Try.prog.info? 38).map (fun i => (i.zero, i.size, i.bytes)) = some (some (.slice none 0 0), 1, 24) := by kernel_rfl
theorem infIs : (Try.prog.info? 34).map (fun i => (i.zero, i.size, i.bytes)) = some (some (.slice none 0 0), 1, 24) := by kernel_rfl
set_option maxRecDepth 8000 in
set_option maxHeartbeats 8000000 in
theorem grows_any {w : World} {a1 a2 : Option Addr} {c1 c2 : Nat} {ops more : List Op5} (h1 : OpsA w a1 ops) (h2 : OpsA w a2 more) : Calls Try.prog 3 #[.slice a1 ops.length c1, .slice a2 more.length c2] w fun e w' => e = .returned (.bool true) ∧ Below w.heap.size w w' := by
  have HO1 : Hid (OpsA w a1 ops) := h1
  have HO2 : Hid (OpsA w a2 more) := h2
  obtain ⟨N, hN⟩ : ∃ N, ops.length = N := ⟨_, rfl⟩
  obtain ⟨M, hM⟩ : ∃ M, more.length = M := ⟨_, rfl⟩
  have HN : Hid (ops.length = N) := hN
  have HM : Hid (more.length = M) := hM
  have hN2 : N ≤ 17592186043904 := by rw [← hN]; exact h1.len
  have hM2 : M ≤ 17592186043904 := by rw [← hM]; exact h2.len
  rw [hN, hM]
  have hp1 : ∀ (p : Option Addr) (u : World), (binOp .eql 25 (.pointer p) (.pointer none)).run Try.prog u = .ok (.bool p.isNone) u := fun p u => run_eql_pointer_nil u _ p (by kernel_rfl)
  have hp2 : ∀ (p : Option Addr) (u : World), (binOp .eql 27 (.pointer p) (.pointer none)).run Try.prog u = .ok (.bool p.isNone) u := fun p u => run_eql_pointer_nil u _ p (by kernel_rfl)
  have hp3 : ∀ (p : Option Addr) (u : World), (binOp .eql 23 (.pointer p) (.pointer none)).run Try.prog u = .ok (.bool p.isNone) u := fun p u => run_eql_pointer_nil u _ p (by kernel_rfl)
  have HB : Hid (Calls Try.prog 5 #[] w _) := begun_any w
  clear h1 h2 hN hM
  go_enter Try.func3, Try.ntmps3
  go_wp2_with fail
  refine HB.out.mono ?_
  rintro e w1 ⟨Bs, rfl, ⟨⟨Bd, Bp, b14, b15, Pd0, Pp0, hbs, hd, hp, hd2, hp2', hap⟩, k1⟩⟩
  have s0 : w1.cell? ⟨Bs, 0, none⟩ = some (.pointer (some ⟨Bd, 0, none⟩)) := by simp [World.cell?, hbs]
  have s2 : w1.cell? ⟨Bs, 2, none⟩ = some (.pointer (some ⟨Bp, 0, none⟩)) := by simp [World.cell?, hbs]
  have H0 : Hid (GrS w 0 0 Pd0 Pp0 Bd Bp Sf.new Pv.new 0 0 w1) := ⟨hd, hp, k1, hd2, hp2', hap, fun k _ => .inr (Nat.zero_le _), Nat.zero_le _⟩
  clear HB hbs hd hp hd2 hp2' hap k1
  go_wp2_with fail
  clear s0 s2
  go_loopw [8] (fun i u => ∃ (j : Nat) (d : Dk) (p : Pv) (Pd Pp : Nat → Prop), i = .int .i64 (j : Nat) ∧ j ≤ N ∧ j ≤ 40 ∧ Hid (GrS w 0 0 Pd Pp Bd Bp d p j (1000 * j) u)) (fun i _ => 41 - (Go.RowKit.intOf i).toNat)
  case atStart => exact ⟨0, Sf.new, Pv.new, Pd0, Pp0, rfl, Nat.zero_le _, by omega, H0⟩
  case round =>
  obtain ⟨j, d, p, Pd, Pp, rfl, hjN, hj40, HS⟩ := hrel
  clear H0
  go_upto_region 7 with fail
  go_cut [57] from 50 to 75 (fun v wx => v = .bool (decide (j < N ∧ j < 40)) ∧ wx = wr)
  case first =>
    by_cases h1 : j < N
    · have l1 : (j : Int) < (N : Int) := by omega
      by_cases h2 : j < 40
      · have l2 : (j : Int) < 40 := by omega
        have HT : Hid (decide (j < N ∧ j < 40) = true) := decide_eq_true ⟨h1, h2⟩
        clear h1 h2
        go_wp2_with fail
        go_meet
        case rel => exact ⟨by rw [HT.out], rfl⟩
      · have l2 : ¬ (j : Int) < 40 := by omega
        have HT : Hid (decide (j < N ∧ j < 40) = false) := decide_eq_false (fun x => h2 x.2)
        clear h1 h2
        go_wp2_with fail
        go_meet
        case rel => exact ⟨by rw [HT.out], rfl⟩
    · have l1 : ¬ (j : Int) < (N : Int) := by omega
      have HT : Hid (decide (j < N ∧ j < 40) = false) := decide_eq_false (fun x => h1 x.1)
      clear h1
      go_wp2_with fail
      go_meet
      case rel => exact ⟨by rw [HT.out], rfl⟩
  case rest =>
  obtain ⟨rfl, hwc⟩ := hcut
  rw [hwc]
  clear hwc
  by_cases hlt : j < N ∧ j < 40
  · rw [decide_eq_true hlt]
    obtain ⟨hl1, hl2⟩ := hlt
    have l1 : (j : Int) < (N : Int) := by omega
    obtain ⟨o, ho⟩ : ∃ o, ops[j]? = some o := ⟨_, List.getElem?_eq_getElem (by rw [HN.out]; exact hl1)⟩
    have HG : Hid (Op5Good w o) := HO1.out.good o (List.mem_of_getElem? ho)
    obtain ⟨b1, off1, rfl, hcell0⟩ : ∃ b off, a1 = some ⟨b, off, none⟩ ∧ ∀ k v, o.cells[k]? = some v → w.cell? ⟨b, off + j * 8 + k, none⟩ = some v := by
      rcases HO1.out.cells with x | ⟨b, off, e, x⟩
      · rw [x] at ho; cases ho
      · exact ⟨b, off, e, fun k v hv => x j o ho k v hv⟩
    have hcell : ∀ k v, o.cells[k]? = some v → wr.cell? ⟨b1, off1 + j * 8 + k, none⟩ = some v := fun k v hv => cell_later HS.out.lo _ _ _ (hcell0 k v hv)
    obtain ⟨kind, nm, ot, dt, kv, keep, oino, ogen, ooff⟩ := o
    have HK7 : Hid (w.cell? ⟨b1, off1 + j * 8 + 7, none⟩ = some (.int .i64 ooff)) := hcell0 7 _ rfl
    obtain ⟨ka, kc, hkv, _⟩ := HG.out.kv
    simp only at hkv
    subst hkv
    obtain ⟨nk, hnk⟩ : ∃ nk, (ints keep).length = nk := ⟨_, rfl⟩
    rw [hnk] at HG hcell
    have f0 : wr.cell? ⟨b1, off1 + j * 8, none⟩ = some (.int .i64 kind) := hcell 0 _ rfl
    have f1 : wr.cell? ⟨b1, off1 + j * 8 + 1, none⟩ = some (.string nm) := hcell 1 _ rfl
    have f2 : wr.cell? ⟨b1, off1 + j * 8 + 2, none⟩ = some (.string ot) := hcell 2 _ rfl
    have f3 : wr.cell? ⟨b1, off1 + j * 8 + 3, none⟩ = some (.string dt) := hcell 3 _ rfl
    have f4 : wr.cell? ⟨b1, off1 + j * 8 + 4, none⟩ = some (.slice ka nk kc) := hcell 4 _ rfl
    have f5 : wr.cell? ⟨b1, off1 + j * 8 + 5, none⟩ = some (.int .i64 oino) := hcell 5 _ rfl
    have f6 : wr.cell? ⟨b1, off1 + j * 8 + 6, none⟩ = some (.int .i64 ogen) := hcell 6 _ rfl
    have f7 : wr.cell? ⟨b1, off1 + j * 8 + 7, none⟩ = some (.int .i64 ooff) := hcell 7 _ rfl
    clear hcell hcell0 ho hnk
    obtain ⟨o, ho⟩ : ∃ o : Op5, (⟨kind, nm, ot, dt, .slice ka nk kc, keep, oino, ogen, ooff⟩ : Op5) = o := ⟨_, rfl⟩
    have HOE : Hid ((⟨kind, nm, ot, dt, .slice ka nk kc, keep, oino, ogen, ooff⟩ : Op5) = o) := ho
    rw [ho] at HG
    have HC : Hid (Calls Try.prog 6 #[.pointer (some ⟨Bd, 0, none⟩), .agg #[.int .i64 kind, .string nm, .string ot, .string dt, .slice ka nk kc, .int .i64 oino, .int .i64 ogen, .int .i64 ooff]] wr fun e w' => e = .returned (.tuple #[]) ∧ DkTo Pd wr Bd (doP d o) (j + 1) w') := by
      have h1 := does_any HS.out.dk o HG.out.ok (lat_off5 HG.out.kv HS.out.lo HS.out.hd)
      have e1 : o.cells = #[.int .i64 kind, .string nm, .string ot, .string dt, .slice ka nk kc, .int .i64 oino, .int .i64 ogen, .int .i64 ooff] := by rw [← HOE.out]; rfl
      rw [e1] at h1
      exact h1
    clear ho
    go_wp2_with fail
    refine HC.out.mono ?_
    rintro e w6 ⟨rfl, hdk⟩
    have hwf := doP_wf HS.out.dk.wf o
    obtain ⟨h6, _⟩ := HS.out.does hdk hwf (by omega)
    have HS6 : Hid (GrS w 0 0 (More Pd wr w6) Pp Bd Bp (doP d o) p (j + 1) (1000 * j) w6) := h6
    obtain ⟨P6, hP6⟩ : ∃ P6, More Pd wr w6 = P6 := ⟨_, rfl⟩
    obtain ⟨d6, hd6⟩ : ∃ d6, doP d o = d6 := ⟨_, rfl⟩
    rw [hP6, hd6] at HS6
    have f7' : w6.cell? ⟨b1, off1 + j * 8 + 7, none⟩ = some (.int .i64 ooff) := cell_later HS6.out.lo _ _ _ HK7.out
    have hof : goodI ooff := by have x := HG.out.of; rw [← HOE.out] at x; exact x
    unfold goodI at hof
    have HSE : Hid (Calls Try.prog 7 #[.pointer (some ⟨Bp, 0, none⟩), .pointer (some ⟨Bd, 0, none⟩)] w6 _) := HS6.out.call (by omega) (by omega)
    clear hdk hwf h6 HC hP6 hd6 f0 f1 f2 f3 f4 f5 f6 f7
    cases ht : (ooff.tmod 2 == 0) with
    | true =>
      go_wp2_with fail
      refine HSE.out.mono ?_
      rintro e w7 ⟨rfl, h7, _⟩
      have HS7 : Hid (GrS w 0 0 P6 (More Pp w6 w7) Bd Bp d6 (Pv.see d6 p) (j + 1) (1000 * (j + 1)) w7) := h7.upC (by omega) (by omega)
      clear HSE h7
      go_wp2_with fail
      go_roundw
      case rel => exact ⟨j + 1, d6, _, P6, _, by go_num, by omega, by omega, HS7⟩
      case measure => simp [Go.RowKit.intOf]; omega
    | false =>
      have HS7 : Hid (GrS w 0 0 P6 Pp Bd Bp d6 p (j + 1) (1000 * (j + 1)) w6) := HS6.out.upC (by omega) (by omega)
      clear HSE
      go_wp2_with fail
      go_roundw
      case rel => exact ⟨j + 1, d6, p, P6, Pp, by go_num, by omega, by omega, HS7⟩
      case measure => simp [Go.RowKit.intOf]; omega
  rw [decide_eq_false hlt]
  clear hlt
  have hjK : j ≤ 40 := hj40
  obtain ⟨b0, hb0⟩ : ∃ b0, wr.heap.size = b0 := ⟨_, rfl⟩
  have HB0 : Hid (wr.heap.size = b0) := hb0
  obtain ⟨u0, hu0⟩ : ∃ u0, wr = u0 := ⟨_, rfl⟩
  rw [hu0] at HS HB0 ⊢
  clear hu0 hb0
  have H2 : Hid (Below u0.heap.size u0 u0 ∧ KepL b0 (.slice none 0 0) (.slice none 0 0) (fsN p (10 * 0)) u0) := ⟨Below.refl _ _, [], [], World.ownsRow_nil _ _ _ _, World.ownsRow_nil _ _ _ _, fun k f hf => by simp [fsN] at hf⟩
  go_wp2_with fail
  go_loopw [9, 10, 12] (fun v9 v10 i u => ∃ n : Nat, i = .int .i64 (n : Nat) ∧ n ≤ 40 ∧ Hid (Below u0.heap.size u0 u ∧ KepL b0 v9 v10 (fsN p (10 * n)) u)) (fun _ _ i _ => 40 - (Go.RowKit.intOf i).toNat)
  case atStart => exact ⟨0, rfl, by omega, H2⟩
  case round =>
  obtain ⟨n, rfl, hn40, HK⟩ := hrel
  clear H2
  by_cases hlt : n < 40
  · have l1 : (n : Int) < 40 := by omega
    have H3 : Hid (Below u0.heap.size u0 wr ∧ KepL b0 u9 u10 (fsN p (10 * n + 0)) wr) := HK.out
    go_wp2_with fail
    go_loopw [9, 10, 13] (fun v9 v10 i u => ∃ g : Nat, i = .int .i64 (g : Nat) ∧ g ≤ 10 ∧ Hid (Below u0.heap.size u0 u ∧ KepL b0 v9 v10 (fsN p (10 * n + g)) u)) (fun _ _ i _ => 10 - (Go.RowKit.intOf i).toNat)
    case atStart => exact ⟨0, rfl, by omega, H3⟩
    case round =>
    obtain ⟨g, rfl, hg10, HI⟩ := hrel
    clear H3 HK
    by_cases hgt : g < 10
    · have l2 : (g : Int) < 10 := by omega
      have HLN : Hid (Calls Try.prog 8 #[.pointer (some ⟨Bp, 0, none⟩), .int .i64 (n : Nat), .int .i64 (g : Nat)] wr _) := lines_any (HS.out.later HI.out.1).pa (n : Nat) (g : Nat) (by unfold goodI; omega) (by unfold goodI; omega)
      go_wp2_with fail
      refine HLN.out.mono ?_
      rintro e x1 ⟨V1, V2, rfl, r1, r2, kx⟩
      obtain ⟨f, hf⟩ : ∃ f, lines (p.sh ((n : Int), (g : Int))) = f := ⟨_, rfl⟩
      rw [hf] at r1 r2
      have HFS : Hid (fsN p (10 * n + g + 1) = fsN p (10 * n + g) ++ [f]) := by show _ = _; rw [← hf]; exact fsN_succ p n g hgt
      obtain ⟨m1, hm1⟩ : ∃ m1, f.length = m1 := ⟨_, rfl⟩
      have hbx : b0 ≤ wr.heap.size := by rw [← HB0.out]; exact HI.out.1.size
      have R1 : Hid (x1.ownsRow b0 9 1 V1 f.length (lnS f)) := own_base r1 hbx
      have R2 : Hid (x1.ownsRow b0 3 1 V2 f.length (lnI f)) := own_base r2 hbx
      rw [hm1] at r1 r2
      obtain ⟨va1, vc1, rfl⟩ := own_form r1
      obtain ⟨va2, vc2, rfl⟩ := own_form r2
      obtain ⟨Vs, Ws, h1, h2, h3⟩ := HI.out.2.later kx
      obtain ⟨m, hm⟩ : ∃ m, (fsN p (10 * n + g)).length = m := ⟨_, rfl⟩
      have hml : m < 400 := by rw [← hm, fsN_len]; omega
      have KA : Hid (x1.ownsRow b0 38 1 u9 (fsN p (10 * n + g)).length Vs ∧ x1.ownsRow b0 34 1 u10 (fsN p (10 * n + g)).length Ws ∧ ∀ (k : Nat) f, (fsN p (10 * n + g))[k]? = some f → ∃ V W, Vs[k]? = some V ∧ Ws[k]? = some W ∧ x1.ownsRow b0 9 1 V f.length (lnS f) ∧ x1.ownsRow b0 3 1 W f.length (lnI f)) := ⟨h1, h2, h3⟩
      rw [hm] at h1 h2
      have HM9 : Hid ((fsN p (10 * n + g)).length = m) := hm
      have A9 : Hid ((x1.alloc (.cells #[.slice va1 m1 vc1] 38)).ownsRow b0 38 1 u9 m Vs) := own_alloc h1 _
      have A10 : Hid (∀ y1 ob, (x1.alloc (.cells #[.slice va1 m1 vc1] 38)).grownBy y1 u9.ownBlock → (y1.alloc ob).ownsRow b0 34 1 u10 m Ws) := fun y1 ob hgr => own_alloc (ownsRow_keep h2 (fun k hk _ hl => by rw [hgr.block k (by simp; omega) (row_ne h2 h1 (by decide) hk)]; exact Below.heap_alloc x1 _ k hl)) ob
      have HX : Hid (Below u0.heap.size u0 x1 ∧ b0 ≤ x1.heap.size) := ⟨below_step HI.out.1 kx, Nat.le_trans hbx kx.size⟩
      clear HLN r1 r2 kx h1 h2 h3 hm hm1 hf HI hbx
      go_wp2_with (first
        | (refine wpList_append_lat rfl (.tmp 91) (.tmp 93) rfl (.slice none 0 0) 24 (by kernel_rfl) infSs rfl b0 _ m Vs rfl A9.out _ [.slice va1 m1 vc1] rfl (lat_lit x1 _ _ _) (fun u hu => by simp at hu; subst hu; rfl) (by simp only [List.length_singleton]; unfold maxLen; omega) (by simp only [List.length_singleton]; omega) (by have := HX.out.2; simp; omega) ?_; intro V9' y1 ho9 hg9 hn9 hh9; have G9 : Hid ((x1.alloc (.cells #[.slice va1 m1 vc1] 38)).grownBy y1 u9.ownBlock ∧ y1.ownsRow b0 38 1 V9' (m + 1) (Vs ++ [.slice va1 m1 vc1]) ∧ Here (x1.alloc (.cells #[.slice va1 m1 vc1] 38)) u9 V9') := ⟨hg9, ho9, hh9⟩; have hsy := hg9.size; have HSY : Hid (x1.heap.size + 1 ≤ y1.heap.size) := (by have h := hg9.size; simp at h; exact h); clear ho9 hg9 hn9 hh9 hsy)
        | (refine wpList_append_lat rfl (.tmp 95) (.tmp 97) rfl (.slice none 0 0) 24 (by kernel_rfl) infIs rfl b0 _ m Ws rfl (A10.out y1 _ G9.out.1) _ [.slice va2 m1 vc2] rfl (lat_lit y1 _ _ _) (fun u hu => by simp at hu; subst hu; rfl) (by simp only [List.length_singleton]; unfold maxLen; omega) (by simp only [List.length_singleton]; omega) (by have := HX.out.2; have := HSY.out; simp; omega) ?_; intro V10' y2 ho10 hg10 hn10 hh10; have G10 : Hid ((y1.alloc (.cells #[.slice va2 m1 vc2] 34)).grownBy y2 u10.ownBlock ∧ y2.ownsRow b0 34 1 V10' (m + 1) (Ws ++ [.slice va2 m1 vc2])) := ⟨hg10, ho10⟩; clear ho10 hg10 hn10 hh10))
      have HN1 : Hid (Below u0.heap.size u0 y2 ∧ KepL b0 V9' V10' (fsN p (10 * n + g + 1)) y2) := by
        have q9 := KA.out.1
        have q10 := KA.out.2.1
        have e0 := HB0.out
        have k1 : Below x1.heap.size x1 (x1.alloc (.cells #[.slice va1 m1 vc1] 38)) := (Below.refl _ _).alloc (Nat.le_refl _) _
        have k2 : Below y1.heap.size y1 (y1.alloc (.cells #[.slice va2 m1 vc2] 34)) := (Below.refl _ _).alloc (Nat.le_refl _) _
        have z1 := HX.out.1.size
        have z2 := HSY.out
        have b1 : Below u0.heap.size u0 y1 := (below_step HX.out.1 k1).grown G9.out.1 (by have := k1.size; omega) (fun k hk => by rw [e0]; exact (own_lt q9 hk).1)
        have b2 : Below u0.heap.size u0 y2 := (below_step b1 k2).grown G10.out.1 (by have := k2.size; omega) (fun k hk => by rw [e0]; exact (own_lt q10 hk).1)
        refine ⟨b2, ?_⟩
        rw [HFS.out]
        refine KepL.snoc KA.out.1 KA.out.2.1 KA.out.2.2 R1.out R2.out k1 G9.out.1 ?_ k2 G10.out.1 ?_ (fun g hg => G9.out.2.2 g hg)
        · rw [HM9.out]; exact G9.out.2.1
        · rw [HM9.out]; exact G10.out.2
      exact ⟨⟨g + 1, by go_num, by omega, HN1⟩, by simp [Go.RowKit.intOf]; omega⟩
    have l2 : ¬ (g : Int) < 10 := by omega
    obtain rfl : g = 10 := by omega
    have HN1 : Hid (Below u0.heap.size u0 wr ∧ KepL b0 u9 u10 (fsN p (10 * (n + 1))) wr) := HI.out
    clear HI
    go_wp2_with fail
    go_roundw
    case rel => exact ⟨n + 1, by go_num, by omega, HN1⟩
    case measure => simp [Go.RowKit.intOf]; omega
  have l1 : ¬ (n : Int) < 40 := by omega
  obtain rfl : n = 40 := by omega
  clear hlt hn40
  as_aux_lemma =>
  obtain ⟨x0, hx0⟩ : ∃ x0, wr = x0 := ⟨_, rfl⟩
  rw [hx0] at HK ⊢
  clear hx0
  obtain ⟨b1, hb1⟩ : ∃ b1, x0.heap.size = b1 := ⟨_, rfl⟩
  have HB1 : Hid (x0.heap.size = b1) := hb1
  clear hb1
  have H4 : Hid (Below x0.heap.size x0 x0 ∧ KepN b1 (.slice none 0 0) (gsN p ops 0) x0) := ⟨Below.refl _ _, [], World.ownsRow_nil _ _ _ _, fun k l hl => by simp [gsN] at hl⟩
  go_wp2_with fail
  go_loopw [11, 16] (fun v11 i u => ∃ q : Nat, i = .int .i64 (q : Nat) ∧ q ≤ N ∧ q ≤ 40 ∧ Hid (Below x0.heap.size x0 u ∧ KepN b1 v11 (gsN p ops q) u)) (fun _ i _ => 41 - (Go.RowKit.intOf i).toNat)
  case atStart => exact ⟨0, rfl, Nat.zero_le _, by omega, H4⟩
  case round =>
  obtain ⟨q, rfl, hqN, hq40, HI⟩ := hrel
  clear H4
  go_upto_region 25 with fail
  go_cut [106] from 99 to 118 (fun v wx => v = .bool (decide (q < N ∧ q < 40)) ∧ wx = wr)
  case first =>
    by_cases h1 : q < N
    · have l1 : (q : Int) < (N : Int) := by omega
      by_cases h2 : q < 40
      · have l2 : (q : Int) < 40 := by omega
        have HT : Hid (decide (q < N ∧ q < 40) = true) := decide_eq_true ⟨h1, h2⟩
        clear h1 h2
        go_wp2_with fail
        go_meet
        case rel => exact ⟨by rw [HT.out], rfl⟩
      · have l2 : ¬ (q : Int) < 40 := by omega
        have HT : Hid (decide (q < N ∧ q < 40) = false) := decide_eq_false (fun x => h2 x.2)
        clear h1 h2
        go_wp2_with fail
        go_meet
        case rel => exact ⟨by rw [HT.out], rfl⟩
    · have l1 : ¬ (q : Int) < (N : Int) := by omega
      have HT : Hid (decide (q < N ∧ q < 40) = false) := decide_eq_false (fun x => h1 x.1)
      clear h1
      go_wp2_with fail
      go_meet
      case rel => exact ⟨by rw [HT.out], rfl⟩
  case rest =>
  obtain ⟨rfl, hwc⟩ := hcut
  rw [hwc]
  clear hwc
  by_cases hlt : q < N ∧ q < 40
  · rw [decide_eq_true hlt]
    obtain ⟨hl1, hl2⟩ := hlt
    have l1 : (q : Int) < (N : Int) := by omega
    obtain ⟨o, ho⟩ : ∃ o, ops[q]? = some o := ⟨_, List.getElem?_eq_getElem (by rw [HN.out]; exact hl1)⟩
    have HG : Hid (Op5Good w o ∧ gsN p ops (q + 1) = gsN p ops q ++ [(p.lb o.nm).2]) := ⟨HO1.out.good o (List.mem_of_getElem? ho), gsN_succ p ho⟩
    have hlo : Below w.heap.size w wr := below_step (below_step HS.out.lo HK.out.1) HI.out.1
    obtain ⟨bb, off, rfl, f1⟩ : ∃ b off, a1 = some ⟨b, off, none⟩ ∧ wr.cell? ⟨b, off + q * 8 + 1, none⟩ = some (.string o.nm) := by
      rcases HO1.out.cells with x | ⟨b, off, e, x⟩
      · rw [x] at ho; cases ho
      · exact ⟨b, off, e, cell_later hlo _ _ _ (x q o ho 1 _ rfl)⟩
    obtain ⟨nm, hnm⟩ : ∃ nm, o.nm = nm := ⟨_, rfl⟩
    have hns : nm.size ≤ maxLen := by rw [← hnm]; exact HG.out.1.ok.n
    rw [hnm] at f1 HG
    have HAR : Hid (Calls Try.prog 9 #[.pointer (some ⟨Bp, 0, none⟩), .string nm] wr _) := arrivals_any ((HS.out.later HK.out.1).later HI.out.1).pa nm hns
    clear ho hlo hns hnm
    go_wp2_with fail
    refine HAR.out.mono ?_
    rintro e x1 ⟨V1, rfl, r1, kx⟩
    obtain ⟨l, hl⟩ : ∃ l, (p.lb nm).2 = l := ⟨_, rfl⟩
    rw [hl] at r1 HG
    obtain ⟨m1, hm1⟩ : ∃ m1, l.length = m1 := ⟨_, rfl⟩
    have hbx : b1 ≤ wr.heap.size := by rw [← HB1.out]; exact HI.out.1.size
    have R1 : Hid (x1.ownsRow b1 3 1 V1 l.length (ints l)) := own_base r1 hbx
    rw [hm1] at r1
    obtain ⟨va1, vc1, rfl⟩ := own_form r1
    obtain ⟨Us, h1, h3⟩ := HI.out.2.later kx
    obtain ⟨m, hm⟩ : ∃ m, (gsN p ops q).length = m := ⟨_, rfl⟩
    have hml : m ≤ 40 := by rw [← hm, gsN_len p ops q (by rw [HN.out]; exact hqN)]; exact hq40
    have KA : Hid (x1.ownsRow b1 34 1 u11 (gsN p ops q).length Us ∧ ∀ (k : Nat) g, (gsN p ops q)[k]? = some g → ∃ U, Us[k]? = some U ∧ x1.ownsRow b1 3 1 U g.length (ints g)) := ⟨h1, h3⟩
    rw [hm] at h1
    have HM9 : Hid ((gsN p ops q).length = m) := hm
    have A9 : Hid ((x1.alloc (.cells #[.slice va1 m1 vc1] 34)).ownsRow b1 34 1 u11 m Us) := own_alloc h1 _
    have HX : Hid (Below x0.heap.size x0 x1 ∧ b1 ≤ x1.heap.size) := ⟨below_step HI.out.1 kx, Nat.le_trans hbx kx.size⟩
    clear HAR r1 kx h1 h3 hm hm1 hl HI hbx f1
    go_wp2_with (first
      | (refine wpList_append_lat rfl (.tmp 109) (.tmp 117) rfl (.slice none 0 0) 24 (by kernel_rfl) infIs rfl b1 _ m Us rfl A9.out _ [.slice va1 m1 vc1] rfl (lat_lit x1 _ _ _) (fun u hu => by simp at hu; subst hu; rfl) (by simp only [List.length_singleton]; unfold maxLen; omega) (by simp only [List.length_singleton]; omega) (by have := HX.out.2; simp; omega) ?_; intro V9' y1 ho9 hg9 hn9 hh9; have G9 : Hid ((x1.alloc (.cells #[.slice va1 m1 vc1] 34)).grownBy y1 u11.ownBlock ∧ y1.ownsRow b1 34 1 V9' (m + 1) (Us ++ [.slice va1 m1 vc1])) := ⟨hg9, ho9⟩; clear ho9 hg9 hn9 hh9)
      | fail)
    have HN1 : Hid (Below x0.heap.size x0 y1 ∧ KepN b1 V9' (gsN p ops (q + 1)) y1) := by
      have q9 := KA.out.1
      have e0 := HB1.out
      have k1 : Below x1.heap.size x1 (x1.alloc (.cells #[.slice va1 m1 vc1] 34)) := (Below.refl _ _).alloc (Nat.le_refl _) _
      have z1 := HX.out.1.size
      have b1' : Below x0.heap.size x0 y1 := (below_step HX.out.1 k1).grown G9.out.1 (by have := k1.size; omega) (fun k hk => by rw [e0]; exact (own_lt q9 hk).1)
      refine ⟨b1', ?_⟩
      rw [HG.out.2]
      refine KepN.snoc KA.out.1 KA.out.2 R1.out k1 G9.out.1 ?_
      rw [HM9.out]
      exact G9.out.2
    exact ⟨⟨q + 1, by go_num, by omega, by omega, HN1⟩, by simp [Go.RowKit.intOf]; omega⟩
  rw [decide_eq_false hlt]
  clear hlt
  obtain ⟨y0, hy0⟩ : ∃ y0, wr = y0 := ⟨_, rfl⟩
  rw [hy0] at HI ⊢
  clear hy0
  obtain ⟨b2, hb2⟩ : ∃ b2, y0.heap.size = b2 := ⟨_, rfl⟩
  have HB2 : Hid (y0.heap.size = b2) := hb2
  clear hb2
  have HKL : Hid (KepL b0 u9 u10 (fsN p (10 * 40)) y0 ∧ KepN b1 u11 (gsN p ops q) y0 ∧ b0 ≤ b1 ∧ b1 ≤ b2) := ⟨HK.out.2.later HI.out.1, HI.out.2, by rw [← HB0.out, ← HB1.out]; exact HK.out.1.size, by rw [← HB1.out, ← HB2.out]; exact HI.out.1.size⟩
  have H5 : Hid (GrS w b0 b2 Pd Pp Bd Bp d p (j + 0) (1000 * j + 2000 * 0) y0) := by
    have g0 := (HS.out.later HK.out.1).later HI.out.1
    have hl1 := HS.out.dk.m.low
    have hl2 := HS.out.pa.low
    refine ⟨g0.dk, g0.pa, g0.lo, g0.hd, g0.hp, g0.ap, fun k hk => .inl ?_, by rw [HB2.out]; exact Nat.le_refl _⟩
    rw [← HB0.out]
    rcases hk with hk | hk
    · exact hl1 k hk
    · exact hl2 k hk
  have HQ : Hid (q ≤ N ∧ q ≤ 40) := ⟨hqN, hq40⟩
  clear HK HI HS HB0 HB1
  as_aux_lemma =>
  go_wp2_with fail
  go_loopw [17] (fun i u => ∃ (t : Nat) (d' : Dk) (p' : Pv) (Pd' Pp' : Nat → Prop), i = .int .i64 (t : Nat) ∧ t ≤ M ∧ t ≤ 40 ∧ Hid (GrS w b0 b2 Pd' Pp' Bd Bp d' p' (j + t) (1000 * j + 2000 * t) u ∧ Pv.Le p p' ∧ ∀ k, b0 ≤ k → k < b2 → u.heap[k]? = y0.heap[k]?)) (fun i _ => 41 - (Go.RowKit.intOf i).toNat)
  case atStart => exact ⟨0, d, p, Pd, Pp, rfl, Nat.zero_le _, by omega, H5.out, Pv.Le.refl p, fun _ _ _ => rfl⟩
  case round =>
  obtain ⟨t, d', p', Pd', Pp', rfl, htM, ht40, HT⟩ := hrel
  clear H5
  go_upto_region 29 with fail
  go_cut [126] from 119 to 140 (fun v wx => v = .bool (decide (t < M ∧ t < 40)) ∧ wx = wr)
  case first =>
    by_cases h1 : t < M
    · have l1 : (t : Int) < (M : Int) := by omega
      by_cases h2 : t < 40
      · have l2 : (t : Int) < 40 := by omega
        have HTT : Hid (decide (t < M ∧ t < 40) = true) := decide_eq_true ⟨h1, h2⟩
        clear h1 h2
        go_wp2_with fail
        go_meet
        case rel => exact ⟨by rw [HTT.out], rfl⟩
      · have l2 : ¬ (t : Int) < 40 := by omega
        have HTT : Hid (decide (t < M ∧ t < 40) = false) := decide_eq_false (fun x => h2 x.2)
        clear h1 h2
        go_wp2_with fail
        go_meet
        case rel => exact ⟨by rw [HTT.out], rfl⟩
    · have l1 : ¬ (t : Int) < (M : Int) := by omega
      have HTT : Hid (decide (t < M ∧ t < 40) = false) := decide_eq_false (fun x => h1 x.1)
      clear h1
      go_wp2_with fail
      go_meet
      case rel => exact ⟨by rw [HTT.out], rfl⟩
  case rest =>
  obtain ⟨rfl, hwc⟩ := hcut
  rw [hwc]
  clear hwc
  by_cases hlt : t < M ∧ t < 40
  · rw [decide_eq_true hlt]
    obtain ⟨hl1, hl2⟩ := hlt
    have l1 : (t : Int) < (M : Int) := by omega
    have HS' : Hid (GrS w b0 b2 Pd' Pp' Bd Bp d' p' (j + t) (1000 * j + 2000 * t) wr) := HT.out.1
    obtain ⟨o, ho⟩ : ∃ o, more[t]? = some o := ⟨_, List.getElem?_eq_getElem (by rw [HM.out]; exact hl1)⟩
    have HG : Hid (Op5Good w o) := HO2.out.good o (List.mem_of_getElem? ho)
    obtain ⟨bq, offq, rfl, hcell0⟩ : ∃ b off, a2 = some ⟨b, off, none⟩ ∧ ∀ k v, o.cells[k]? = some v → w.cell? ⟨b, off + t * 8 + k, none⟩ = some v := by
      rcases HO2.out.cells with x | ⟨b, off, e, x⟩
      · rw [x] at ho; cases ho
      · exact ⟨b, off, e, fun k v hv => x t o ho k v hv⟩
    have hcell : ∀ k v, o.cells[k]? = some v → wr.cell? ⟨bq, offq + t * 8 + k, none⟩ = some v := fun k v hv => cell_later HS'.out.lo _ _ _ (hcell0 k v hv)
    obtain ⟨kind, nm, ot, dt, kv, keep, oino, ogen, ooff⟩ := o
    have HK7 : Hid (w.cell? ⟨bq, offq + t * 8 + 7, none⟩ = some (.int .i64 ooff)) := hcell0 7 _ rfl
    obtain ⟨ka, kc, hkv, _⟩ := HG.out.kv
    simp only at hkv
    subst hkv
    obtain ⟨nk, hnk⟩ : ∃ nk, (ints keep).length = nk := ⟨_, rfl⟩
    rw [hnk] at HG hcell
    have f0 : wr.cell? ⟨bq, offq + t * 8, none⟩ = some (.int .i64 kind) := hcell 0 _ rfl
    have f1 : wr.cell? ⟨bq, offq + t * 8 + 1, none⟩ = some (.string nm) := hcell 1 _ rfl
    have f2 : wr.cell? ⟨bq, offq + t * 8 + 2, none⟩ = some (.string ot) := hcell 2 _ rfl
    have f3 : wr.cell? ⟨bq, offq + t * 8 + 3, none⟩ = some (.string dt) := hcell 3 _ rfl
    have f4 : wr.cell? ⟨bq, offq + t * 8 + 4, none⟩ = some (.slice ka nk kc) := hcell 4 _ rfl
    have f5 : wr.cell? ⟨bq, offq + t * 8 + 5, none⟩ = some (.int .i64 oino) := hcell 5 _ rfl
    have f6 : wr.cell? ⟨bq, offq + t * 8 + 6, none⟩ = some (.int .i64 ogen) := hcell 6 _ rfl
    have f7 : wr.cell? ⟨bq, offq + t * 8 + 7, none⟩ = some (.int .i64 ooff) := hcell 7 _ rfl
    clear hcell hcell0 ho hnk
    obtain ⟨o, ho⟩ : ∃ o : Op5, (⟨kind, nm, ot, dt, .slice ka nk kc, keep, oino, ogen, ooff⟩ : Op5) = o := ⟨_, rfl⟩
    have HOE : Hid ((⟨kind, nm, ot, dt, .slice ka nk kc, keep, oino, ogen, ooff⟩ : Op5) = o) := ho
    rw [ho] at HG
    have HC : Hid (Calls Try.prog 6 #[.pointer (some ⟨Bd, 0, none⟩), .agg #[.int .i64 kind, .string nm, .string ot, .string dt, .slice ka nk kc, .int .i64 oino, .int .i64 ogen, .int .i64 ooff]] wr fun e w' => e = .returned (.tuple #[]) ∧ DkTo Pd' wr Bd (doP d' o) (j + t + 1) w') := by
      have h1 := does_any HS'.out.dk o HG.out.ok (lat_off5 HG.out.kv HS'.out.lo HS'.out.hd)
      have e1 : o.cells = #[.int .i64 kind, .string nm, .string ot, .string dt, .slice ka nk kc, .int .i64 oino, .int .i64 ogen, .int .i64 ooff] := by rw [← HOE.out]; rfl
      rw [e1] at h1
      exact h1
    clear ho
    go_wp2_with fail
    refine HC.out.mono ?_
    rintro e w6 ⟨rfl, hdk⟩
    have hwf := doP_wf HS'.out.dk.wf o
    obtain ⟨h6, e6⟩ := HS'.out.does hdk hwf (by omega)
    have HS6 : Hid (GrS w b0 b2 (More Pd' wr w6) Pp' Bd Bp (doP d' o) p' (j + t + 1) (1000 * j + 2000 * t) w6 ∧ ∀ k, b0 ≤ k → k < b2 → w6.heap[k]? = wr.heap[k]?) := ⟨h6, e6⟩
    obtain ⟨P6, hP6⟩ : ∃ P6, More Pd' wr w6 = P6 := ⟨_, rfl⟩
    obtain ⟨d6, hd6⟩ : ∃ d6, doP d' o = d6 := ⟨_, rfl⟩
    rw [hP6, hd6] at HS6
    have HSE : Hid (Calls Try.prog 7 #[.pointer (some ⟨Bp, 0, none⟩), .pointer (some ⟨Bd, 0, none⟩)] w6 _) := HS6.out.1.call (by omega) (by omega)
    clear hdk hwf h6 e6 HC hP6 hd6 f0 f1 f2 f3 f4 f5 f6 f7
    go_wp2_with fail
    refine HSE.out.mono ?_
    rintro e w7 ⟨rfl, h7, e7⟩
    have HS7 : Hid (GrS w b0 b2 P6 (More Pp' w6 w7) Bd Bp d6 (Pv.see d6 p') (j + t + 1) (1000 * j + 2000 * t + 1000) w7 ∧ ∀ k, b0 ≤ k → k < b2 → w7.heap[k]? = w6.heap[k]?) := ⟨h7, e7⟩
    have HSE2 : Hid (Calls Try.prog 7 #[.pointer (some ⟨Bp, 0, none⟩), .pointer (some ⟨Bd, 0, none⟩)] w7 _) := HS7.out.1.call (by omega) (by omega)
    clear HSE h7 e7
    go_wp2_with fail
    refine HSE2.out.mono ?_
    rintro e w8 ⟨rfl, h8, e8⟩
    have HS8 : Hid (GrS w b0 b2 P6 (More (More Pp' w6 w7) w7 w8) Bd Bp d6 (Pv.see d6 (Pv.see d6 p')) (j + (t + 1)) (1000 * j + 2000 * (t + 1)) w8 ∧ Pv.Le p (Pv.see d6 (Pv.see d6 p')) ∧ ∀ k, b0 ≤ k → k < b2 → w8.heap[k]? = y0.heap[k]?) := ⟨h8.upC (by omega) (by omega), HT.out.2.1.trans ((Pv.le_see d6 p').trans (Pv.le_see d6 _)), fun k h1 h2 => (e8 k h1 h2).trans ((HS7.out.2 k h1 h2).trans ((HS6.out.2 k h1 h2).trans (HT.out.2.2 k h1 h2)))⟩
    clear HSE2 h8 e8
    go_wp2_with fail
    go_roundw
    case rel => exact ⟨t + 1, d6, _, P6, _, by go_num, by omega, by omega, HS8⟩
    case measure => simp [Go.RowKit.intOf]; omega
  rw [decide_eq_false hlt]
  clear hlt
  obtain ⟨z0, hz0⟩ : ∃ z0, wr = z0 := ⟨_, rfl⟩
  rw [hz0] at HT ⊢
  clear hz0
  have HKZ : Hid (KepL b0 u9 u10 (fsN p 400) z0 ∧ KepN b1 u11 (gsN p ops q) z0) := ⟨HKL.out.1.keep (by rw [HB2.out]; exact Nat.le_refl _) HT.out.2.2, HKL.out.2.1.keep (by rw [HB2.out]; exact Nat.le_refl _) (fun k h1 h2 => HT.out.2.2 k (Nat.le_trans HKL.out.2.2.1 h1) h2)⟩
  have HG6 : Hid (GrS w b0 b2 Pd' Pp' Bd Bp d' p' (j + t) (1000 * j + 2000 * t) z0 ∧ Pv.Le p p') := ⟨HT.out.1, HT.out.2.1⟩
  have H6 : Hid (Below z0.heap.size z0 z0) := Below.refl _ _
  clear HT HKL
  obtain ⟨b9, c9, e9⟩ : ∃ b9 c9, u9 = .slice (some ⟨b9, 0, none⟩) 400 c9 := by
    obtain ⟨Vs, Ws, h1, _⟩ := HKZ.out.1
    rw [fsN_len] at h1
    rcases h1.2 with ⟨_, h0⟩ | ⟨g, cap, cur, e, _⟩
    · omega
    · exact ⟨g, cap, e⟩
  obtain ⟨b10, c10, e10⟩ : ∃ b10 c10, u10 = .slice (some ⟨b10, 0, none⟩) 400 c10 := by
    obtain ⟨Vs, Ws, _, h1, _⟩ := HKZ.out.1
    rw [fsN_len] at h1
    rcases h1.2 with ⟨_, h0⟩ | ⟨g, cap, cur, e, _⟩
    · omega
    · exact ⟨g, cap, e⟩
  subst e9 e10
  as_aux_lemma =>
  go_wp2_with fail
  go_loopw [18] (fun i u => ∃ n : Nat, i = .int .i64 (n : Nat) ∧ n ≤ 40 ∧ Hid (Below z0.heap.size z0 u)) (fun i _ => 40 - (Go.RowKit.intOf i).toNat)
  case atStart => exact ⟨0, rfl, by omega, H6⟩
  case round =>
  obtain ⟨n, rfl, hn40, HL⟩ := hrel
  clear H6
  by_cases hlt : n < 40
  · have l1 : (n : Int) < 40 := by omega
    go_wp2_with fail
    go_loopw [19] (fun i u => ∃ g : Nat, i = .int .i64 (g : Nat) ∧ g ≤ 10 ∧ Hid (Below z0.heap.size z0 u)) (fun i _ => 10 - (Go.RowKit.intOf i).toNat)
    case atStart => exact ⟨0, rfl, by omega, HL⟩
    case round =>
    obtain ⟨g, rfl, hg10, HI⟩ := hrel
    clear HL
    by_cases hgt : g < 10
    · have l2 : (g : Int) < 10 := by omega
      have HLN : Hid (Calls Try.prog 8 #[.pointer (some ⟨Bp, 0, none⟩), .int .i64 (n : Nat), .int .i64 (g : Nat)] wr _) := lines_any (HG6.out.1.later HI.out).pa (n : Nat) (g : Nat) (by unfold goodI; omega) (by unfold goodI; omega)
      go_wp2_with fail
      refine HLN.out.mono ?_
      rintro e x1 ⟨V1, V2, rfl, r1, r2, kx⟩
      obtain ⟨f', hf'⟩ : ∃ f', lines (p'.sh ((n : Int), (g : Int))) = f' := ⟨_, rfl⟩
      obtain ⟨f, hf⟩ : ∃ f, lines (p.sh ((n : Int), (g : Int))) = f := ⟨_, rfl⟩
      have hpre : f <+: f' := by rw [← hf, ← hf']; exact lines_prefix (HG6.out.2.sh _)
      rw [hf'] at r1 r2
      have hz1 : Below z0.heap.size z0 x1 := below_step HI.out kx
      have hfs : (fsN p 400)[10 * n + g]? = some f := by
        have hlt2 : 10 * n + g < 400 := by omega
        have e1 : (10 * n + g) / 10 = n := by omega
        have e2 : (10 * n + g) % 10 = g := by omega
        unfold fsN
        simp only [List.getElem?_map, List.getElem?_range hlt2, Option.map_some, e1, e2, hf]
      obtain ⟨Vs, Ws, h1, h2, h3⟩ := HKZ.out.1.later hz1
      obtain ⟨V, W, hV, hW, rV, rW⟩ := h3 _ f hfs
      have cV : x1.cell? ⟨b9, 10 * n + g, none⟩ = some V := by
        obtain ⟨a', c', e', _, _, hc⟩ := owns_lat h1
        rcases hc with hc | ⟨b', off, e2, hc⟩
        · rw [hc] at hV; cases hV
        · rw [e2] at e'
          have e3 := (Value.slice.inj e').1
          cases e3
          have := hc _ V hV
          rw [Nat.zero_add] at this
          exact this
      have cW : x1.cell? ⟨b10, 10 * n + g, none⟩ = some W := by
        obtain ⟨a', c', e', _, _, hc⟩ := owns_lat h2
        rcases hc with hc | ⟨b', off, e2, hc⟩
        · rw [hc] at hW; cases hW
        · rw [e2] at e'
          have e3 := (Value.slice.inj e').1
          cases e3
          have := hc _ W hW
          rw [Nat.zero_add] at this
          exact this
      obtain ⟨m', hm'⟩ : ∃ m', f'.length = m' := ⟨_, rfl⟩
      obtain ⟨k, hk⟩ : ∃ k, f.length = k := ⟨_, rfl⟩
      have hkm : k ≤ m' := by rw [← hk, ← hm']; exact hpre.length_le
      have hmb : m' ≤ 1048576 := by rw [← hm', ← hf']; exact Nat.le_trans (lns_len _ 0 []) (HG6.out.1.pa.ok.sh _)
      rw [hm'] at r1 r2
      rw [hk] at rV rW
      obtain ⟨la, lc, rfl⟩ := own_form r1
      obtain ⟨aa, ac, rfl⟩ := own_form r2
      obtain ⟨xa, xc, rfl⟩ := own_form rV
      obtain ⟨ya, yc, rfl⟩ := own_form rW
      have HR : Hid (x1.ownsRow wr.heap.size 9 1 (.slice la m' lc) m' (lnS f') ∧ x1.ownsRow wr.heap.size 3 1 (.slice aa m' ac) m' (lnI f') ∧ x1.ownsRow b0 9 1 (.slice xa k xc) k (lnS f) ∧ x1.ownsRow b0 3 1 (.slice ya k yc) k (lnI f) ∧ f <+: f' ∧ f.length = k ∧ f'.length = m' ∧ Below z0.heap.size z0 x1) := ⟨r1, r2, rV, rW, hpre, hk, hm', hz1⟩
      have ix2 : 10 * (n : Int) + (g : Int) < 400 := by omega
      clear HLN r1 r2 kx hf' hf hpre hz1 hfs h1 h2 h3 hV hW rV rW hm' hk
      go_upto_region 42 with fail
      refine reg42 (new := #[Value.slice a1 N c1, Value.slice a2 M c2, undef, undef, u4, Value.pointer (some { block := Bs, off := 0 }), Value.pointer (some { block := Bd, off := 0 }), Value.pointer (some { block := Bp, off := 0 }), Value.int IntKind.i64 ↑j, Value.slice (some { block := b9, off := 0 }) 400 c9, Value.slice (some { block := b10, off := 0 }) 400 c10, u11, Value.int IntKind.i64 40, u13, u14, u15, Value.int IntKind.i64 ↑q, Value.int IntKind.i64 ↑t, Value.int IntKind.i64 ↑n, Value.int IntKind.i64 ↑g, Value.slice la m' lc, Value.slice aa m' ac, Value.int IntKind.i64 ↑k, undef, undef, Value.pointer (some { block := Bs, off := 0 }), Value.pointer (some { block := Bs, off := 0 }), Value.bool false, Value.bool false, Value.pointer (some { block := Bs, off := 0 }), Value.pointer (some { block := Bs, off := 0 }), Value.pointer (some { block := Bs, off := 0 }), Value.pointer (some { block := Bd, off := 0 }), Value.bool false, Value.bool false, Value.bool false, Value.pointer (some { block := Bs, off := 0 }), Value.pointer (some { block := Bs, off := 0 }), Value.pointer (some { block := Bs, off := 2 }), Value.pointer (some { block := Bp, off := 0 }), Value.bool false, Value.bool false, Value.pointer (some { block := Bs, off := 0 }), Value.pointer (some { block := Bs, off := 0 }), Value.pointer (some { block := Bs, off := 0 }), Value.pointer (some { block := Bd, off := 0 }), Value.pointer (some { block := Bs, off := 0 }), Value.pointer (some { block := Bs, off := 0 }), Value.pointer (some { block := Bs, off := 2 }), Value.pointer (some { block := Bp, off := 0 }), u50, u51, u52, u53, u54, u55, u56, Value.bool false, u58, u59, u60, u61, u62, u63, u64, u65, u66, u67, u68, u69, u70, u71, u72, u73, u74, u75, Value.int IntKind.i64 40, Value.bool false, u78, u79, u80, u81, u82, u83, u84, u85, u86, u87, u88, u89, u90, u91, u92, u93, u94, u95, u96, u97, u98, u99, u100, u101, u102, u103, u104, u105, Value.bool false, u107, u108, u109, u110, u111, u112, u113, u114, u115, u116, u117, u118, u119, u120, u121, u122, u123, u124, u125, Value.bool false, u127, u128, u129, u130, u131, u132, u133, u134, u135, u136, u137, u138, u139, u140, Value.int IntKind.i64 ↑n, Value.bool true, u143, u144, Value.int IntKind.i64 ↑g, Value.bool true, u147, u148, Value.tuple #[Value.slice la m' lc, Value.slice aa m' ac], Value.pointer (some { block := Bp, off := 0 }), Value.int IntKind.i64 ↑n, Value.int IntKind.i64 ↑g, Value.tuple #[Value.slice la m' lc, Value.slice aa m' ac], Value.slice la m' lc, Value.slice aa m' ac, Value.slice (some { block := b9, off := 0 }) 400 c9, Value.int IntKind.i64 ↑n, Value.int IntKind.i64 (10 * ↑n), Value.int IntKind.i64 ↑g, Value.int IntKind.i64 (10 * ↑n + ↑g), Value.pointer (some { block := b9, off := 10 * n + g }), Value.slice xa k xc, Value.int IntKind.i64 ↑k, .slice la m' lc, .int .i64 (m' : Nat), .int .i64 (k : Nat), .bool false, .bool false, .slice aa m' ac, .int .i64 (m' : Nat), .slice la m' lc, .int .i64 (m' : Nat), .bool false, .bool false, .bool false, .slice la m' lc, .int .i64 (k : Nat), .slice la k lc, .slice (some ⟨b9, 0, none⟩) 400 c9, .int .i64 (n : Nat), .int .i64 (10 * (n : Int)), .int .i64 (g : Nat), .int .i64 (10 * (n : Int) + (g : Int)), .pointer (some ⟨b9, 10 * n + g, none⟩), .slice xa k xc, .bool true, .bool false, .bool false, .bool false, .slice aa m' ac, .int .i64 (k : Nat), .slice aa k ac, .slice (some ⟨b10, 0, none⟩) 400 c10, .int .i64 (n : Nat), .int .i64 (10 * (n : Int)), .int .i64 (g : Nat), .int .i64 (10 * (n : Int) + (g : Int)), .pointer (some ⟨b10, 10 * n + g, none⟩), .slice ya k yc, .bool true, .bool false, .bool false, undef, undef, undef, undef, undef, undef, undef, undef, undef, undef, undef, undef, undef, undef, undef, undef, undef, undef, undef, undef, undef, undef, undef, undef, undef, undef, undef, undef, undef, undef, undef, undef, undef, undef, undef, undef]) la aa xa ya m' lc ac k xc yc b9 c9 b10 c10 n g (by kernel_rfl) rfl rfl rfl rfl rfl rfl rfl rfl (by omega) (slice_to rfl HR.out.1 hkm (by omega) (fun _ => rfl)) (slice_to rfl HR.out.2.1 hkm (by omega) (fun _ => rfl)) (by simp [IntKind.wrap, IntKind.bits, IntKind.signed]; omega) (by simp [IntKind.wrap, IntKind.bits, IntKind.signed]; omega) (by omega) (by omega) (by omega) cV cW (pre_texts HR.out.1 HR.out.2.2.1 HR.out.2.2.2.2.1 HR.out.2.2.2.2.2.1 hkm hmb) (pre_ints HR.out.2.1 HR.out.2.2.2.1 HR.out.2.2.2.2.1 HR.out.2.2.2.2.2.1 hkm hmb) (by kernel_rfl) ?_
      intro w9 k9
      have HB9 : Hid (Below z0.heap.size z0 w9) := below_step HR.out.2.2.2.2.2.2.2 k9
      clear k9 HR cV cW
      dsimp only
      go_wp2_with fail
      go_roundw
      case rel => exact ⟨g + 1, by go_num, by omega, HB9⟩
      case measure => simp [Go.RowKit.intOf]; omega
    have l2 : ¬ (g : Int) < 10 := by omega
    obtain rfl : g = 10 := by omega
    go_wp2_with fail
    go_roundw
    case rel => exact ⟨n + 1, by go_num, by omega, HI⟩
    case measure => simp [Go.RowKit.intOf]; omega
  have l1 : ¬ (n : Int) < 40 := by omega
  obtain rfl : n = 40 := by omega
  clear hlt hn40
  as_aux_lemma =>
  obtain ⟨a11, c11, hu11⟩ : ∃ a c, u11 = .slice a q c := by
    obtain ⟨Us, h1, _⟩ := HKZ.out.2
    rw [gsN_len p ops q (by rw [HN.out]; exact HQ.out.1)] at h1
    exact own_form h1
  subst hu11
  have H8 : Hid (Below z0.heap.size z0 wr) := HL
  go_wp2_with fail
  go_loopw [205] (fun i u => ∃ g : Nat, i = .int .i64 (g : Nat) ∧ g ≤ q ∧ Hid (Below z0.heap.size z0 u)) (fun i _ => q - (Go.RowKit.intOf i).toNat)
  case atStart => exact ⟨0, rfl, by omega, H8⟩
  case round =>
  obtain ⟨i, rfl, hiq, HI⟩ := hrel
  clear H8 HL
  by_cases hlt : i < q
  · have l1 : (i : Int) < (q : Int) := by omega
    have hl1 : i < N := Nat.lt_of_lt_of_le hlt HQ.out.1
    have l2 : (i : Int) < (N : Int) := by omega
    obtain ⟨o, ho⟩ : ∃ o, ops[i]? = some o := ⟨_, List.getElem?_eq_getElem (by rw [HN.out]; exact hl1)⟩
    have hgood : Op5Good w o := HO1.out.good o (List.mem_of_getElem? ho)
    have hlo : Below w.heap.size w wr := below_step HG6.out.1.lo HI.out
    obtain ⟨bb, off, rfl, f1⟩ : ∃ b off, a1 = some ⟨b, off, none⟩ ∧ wr.cell? ⟨b, off + i * 8 + 1, none⟩ = some (.string o.nm) := by
      rcases HO1.out.cells with x | ⟨b, off, e, x⟩
      · rw [x] at ho; cases ho
      · exact ⟨b, off, e, cell_later hlo _ _ _ (x i o ho 1 _ rfl)⟩
    obtain ⟨nm, hnm⟩ : ∃ nm, o.nm = nm := ⟨_, rfl⟩
    have hns : nm.size ≤ maxLen := by rw [← hnm]; exact hgood.ok.n
    have hgs : (gsN p ops q)[i]? = some (p.lb nm).2 := by
      unfold gsN
      rw [List.getElem?_map, List.getElem?_take_of_lt hlt, ho, ← hnm]
      rfl
    have HGS : Hid ((gsN p ops q)[i]? = some (p.lb nm).2) := hgs
    rw [hnm] at f1
    have HAR : Hid (Calls Try.prog 9 #[.pointer (some ⟨Bp, 0, none⟩), .string nm] wr _) := arrivals_any (HG6.out.1.later HI.out).pa nm hns
    clear ho hlo hns hnm hgs hgood hl1
    go_wp2_with fail
    refine HAR.out.mono ?_
    rintro e x1 ⟨V1, rfl, r1, kx⟩
    have hz1 : Below z0.heap.size z0 x1 := below_step HI.out kx
    have hpre : (p.lb nm).2 <+: (p'.lb nm).2 := HG6.out.2.lb nm
    have hmb : (p'.lb nm).2.length ≤ 1000000000 := Nat.le_trans (HG6.out.1.pa.ok.lb nm).2 HG6.out.1.pa.c
    obtain ⟨Us, h1, h3⟩ := HKZ.out.2.later hz1
    obtain ⟨U, hU, rU⟩ := h3 _ _ HGS.out
    obtain ⟨b11, hb11, cU⟩ : ∃ b11, a11 = some ⟨b11, 0, none⟩ ∧ x1.cell? ⟨b11, i, none⟩ = some U := by
      rcases h1.2 with ⟨e, h0⟩ | ⟨g, cap, cur, e, _⟩
      · rw [gsN_len p ops q (by rw [HN.out]; exact HQ.out.1)] at h0; omega
      · obtain ⟨a', c', e', _, _, hc⟩ := owns_lat h1
        have e4 := (Value.slice.inj e).1
        rcases hc with hc | ⟨b', off, e2, hc⟩
        · rw [hc] at hU; cases hU
        · have e3 := (Value.slice.inj e').1
          rw [e2, e4] at e3
          cases e3
          have := hc _ U hU
          rw [Nat.zero_add] at this
          exact ⟨_, e4, this⟩
    subst hb11
    obtain ⟨m', hm'⟩ : ∃ m', (p'.lb nm).2.length = m' := ⟨_, rfl⟩
    obtain ⟨k, hk⟩ : ∃ k, (p.lb nm).2.length = k := ⟨_, rfl⟩
    have hkm : k ≤ m' := by rw [← hk, ← hm']; exact hpre.length_le
    rw [hm'] at r1 hmb
    rw [hk] at rU
    obtain ⟨aa, ac, rfl⟩ := own_form r1
    obtain ⟨ya, yc, rfl⟩ := own_form rU
    have HR : Hid (x1.ownsRow wr.heap.size 3 1 (.slice aa m' ac) m' (ints (p'.lb nm).2) ∧ x1.ownsRow b1 3 1 (.slice ya k yc) k (ints (p.lb nm).2) ∧ (p.lb nm).2 <+: (p'.lb nm).2 ∧ (p.lb nm).2.length = k ∧ Below z0.heap.size z0 x1) := ⟨r1, rU, hpre, hk, hz1⟩
    clear HAR HGS r1 kx hpre hz1 h1 h3 hU rU hm' hk f1
    go_upto_region 48 with fail
    refine reg48 (new := #[Value.slice (some { block := bb, off := off }) N c1, Value.slice a2 M c2, undef, undef, u4, Value.pointer (some { block := Bs, off := 0 }), Value.pointer (some { block := Bd, off := 0 }), Value.pointer (some { block := Bp, off := 0 }), Value.int IntKind.i64 ↑j, Value.slice (some { block := b9, off := 0 }) 400 c9, Value.slice (some { block := b10, off := 0 }) 400 c10, Value.slice (some { block := b11, off := 0 }) q c11, Value.int IntKind.i64 40, u13, u14, u15, Value.int IntKind.i64 ↑q, Value.int IntKind.i64 ↑t, Value.int IntKind.i64 40, u19, u20, u21, u22, Value.int IntKind.i64 ↑i, Value.slice aa m' ac, Value.pointer (some { block := Bs, off := 0 }), Value.pointer (some { block := Bs, off := 0 }), Value.bool false, Value.bool false, Value.pointer (some { block := Bs, off := 0 }), Value.pointer (some { block := Bs, off := 0 }), Value.pointer (some { block := Bs, off := 0 }), Value.pointer (some { block := Bd, off := 0 }), Value.bool false, Value.bool false, Value.bool false, Value.pointer (some { block := Bs, off := 0 }), Value.pointer (some { block := Bs, off := 0 }), Value.pointer (some { block := Bs, off := 2 }), Value.pointer (some { block := Bp, off := 0 }), Value.bool false, Value.bool false, Value.pointer (some { block := Bs, off := 0 }), Value.pointer (some { block := Bs, off := 0 }), Value.pointer (some { block := Bs, off := 0 }), Value.pointer (some { block := Bd, off := 0 }), Value.pointer (some { block := Bs, off := 0 }), Value.pointer (some { block := Bs, off := 0 }), Value.pointer (some { block := Bs, off := 2 }), Value.pointer (some { block := Bp, off := 0 }), u50, u51, u52, u53, u54, u55, u56, Value.bool false, u58, u59, u60, u61, u62, u63, u64, u65, u66, u67, u68, u69, u70, u71, u72, u73, u74, u75, Value.int IntKind.i64 40, Value.bool false, u78, u79, u80, u81, u82, u83, u84, u85, u86, u87, u88, u89, u90, u91, u92, u93, u94, u95, u96, u97, u98, u99, u100, u101, u102, u103, u104, u105, Value.bool false, u107, u108, u109, u110, u111, u112, u113, u114, u115, u116, u117, u118, u119, u120, u121, u122, u123, u124, u125, Value.bool false, u127, u128, u129, u130, u131, u132, u133, u134, u135, u136, u137, u138, u139, u140, Value.int IntKind.i64 40, Value.bool false, u143, u144, u145, u146, u147, u148, u149, u150, u151, u152, u153, u154, u155, u156, u157, u158, u159, u160, u161, u162, u163, u164, u165, u166, u167, u168, u169, u170, u171, u172, u173, u174, u175, u176, u177, u178, u179, u180, u181, u182, u183, u184, u185, u186, u187, u188, u189, u190, u191, u192, u193, u194, u195, u196, u197, u198, u199, u200, u201, u202, Value.slice (some { block := b11, off := 0 }) q c11, Value.int IntKind.i64 ↑q, Value.int IntKind.i64 ↑i, Value.bool true, Value.int IntKind.i64 ↑i, Value.pointer (some { block := Bp, off := 0 }), Value.slice (some { block := bb, off := off }) N c1, Value.int IntKind.i64 ↑i, Value.pointer (some { block := bb, off := off + i * 8 }), Value.pointer (some { block := bb, off := off + i * 8 + 1 }), Value.string nm, Value.slice aa m' ac, .slice aa m' ac, .int .i64 (m' : Nat), .slice (some ⟨b11, 0, none⟩) q c11, .int .i64 (i : Nat), .pointer (some ⟨b11, i, none⟩), .slice ya k yc, .int .i64 (k : Nat), .bool false, .bool false, .slice aa m' ac, .slice (some ⟨b11, 0, none⟩) q c11, .int .i64 (i : Nat), .pointer (some ⟨b11, i, none⟩), .slice ya k yc, .int .i64 (k : Nat), .slice aa k ac, .slice (some ⟨b11, 0, none⟩) q c11, .int .i64 (i : Nat), .pointer (some ⟨b11, i, none⟩), .slice ya k yc, .bool true, .bool false, .bool false, u238]) aa ya m' ac k yc b11 c11 q i (by kernel_rfl) rfl rfl rfl rfl (by omega) l1 (slice_to rfl HR.out.1 hkm (by omega) (fun _ => rfl)) cU (pre_nums HR.out.1 HR.out.2.1 HR.out.2.2.1 HR.out.2.2.2.1 hkm hmb) (by kernel_rfl) ?_
    intro w9 k9
    have HB9 : Hid (Below z0.heap.size z0 w9) := below_step HR.out.2.2.2.2 k9
    clear k9 HR cU
    dsimp only
    go_wp2_with fail
    go_roundw
    case rel => exact ⟨i + 1, by go_num, by omega, HB9⟩
    case measure => simp [Go.RowKit.intOf]; omega
  have l1 : ¬ (i : Int) < (q : Int) := by omega
  have HE : Hid (Below w.heap.size w wr) := below_step HG6.out.1.lo HI.out
  go_wp2_with fail
  go_ret
  exact ⟨rfl, HE.out⟩
end Go.Proofs.Ytobbcgendjakiaa
