/- heronlaw12.kept and full. -/
import Derived.Test.YtdngileimmgdnaaDoorG28
namespace Go.Proofs.YtdngileimmgdnaaDoor
open Go Go.RowKit
attribute [local go_sem ↓] Go.wp_at_zero Go.wp_at_succ

theorem lat_cut {w : World} {V : Value} {xs : List Value} {x : Value} (h : LAt w V (xs ++ [x])) : LAt w (cutv V) xs := by
  obtain ⟨a, c, rfl, h1, h2, h3⟩ := h
  rw [List.length_append] at h1
  refine ⟨a, c, by simp [cutv], by simp at h1; omega, h2, ?_⟩
  rcases h3 with h3 | ⟨b, off, e, hc⟩
  · exact absurd h3 (by simp)
  · refine .inr ⟨b, off, e, fun k v hv => hc k v ?_⟩
    rw [List.getElem?_append_left (List.getElem?_eq_some_iff.1 hv).1]
    exact hv
section
variable {A : Nat} {u v : World} {d : Dt} {bs rows : List (Value × List Int)} {V1 V2 V3 M : Value}
theorem Cpy.later (h : Cpy A u d bs rows V1 V2 V3 M) (hb : Below u.heap.size u v) : Cpy A v d bs rows V1 V2 V3 M := ⟨h.fam.later hb, h.len, h.row, h.nn, h.n1, h.n2, h.n3, h.m⟩
theorem Cpy.df (h : Cpy A u d bs rows V1 V2 V3 M) (bf : ∀ x ∈ d.fo, x < 4294967296) (be : ∀ x ∈ d.en, x < 4294967296) : DfAt u d (cutv V1) (cutv V2) (cutv V3) (rows.map fun p => cutv p.1) := by
  have h5 := owns_lat (h.fam.own 5 _ _ _ (fm_at5 _ _ _ _ _))
  have h6 := owns_lat (h.fam.own 6 _ _ _ (fm_at6 _ _ _ _ _))
  simp only at h5 h6
  rw [← u32s_snoc] at h5 h6
  refine ⟨lat_cut (owns_lat (h.fam.own 4 _ _ _ (fm_at4 _ _ _ _ _))), by rw [List.length_map]; exact h.len, fun s U hU => ?_, lat_cut h5, lat_cut h6, bf, be⟩
  rw [List.getElem?_map] at hU
  cases hr : rows[s]? with
  | none => rw [hr] at hU; simp at hU
  | some p =>
    rw [hr] at hU
    simp at hU
    subst hU
    have h7 := owns_lat (h.fam.own (7 + s) 3 p.1 (ints p.2) (by rw [fm_at7, hr]; rfl))
    rw [h.row s p hr] at h7
    have e : ints (d.row s ++ [-77]) = ints (d.row s) ++ [Value.int .i64 (-77)] := by simp [ints]
    rw [e] at h7
    exact lat_cut h7
/-- the explicit forms -/
theorem Cpy.forms (h : Cpy A u d bs rows V1 V2 V3 M) : ∃ gn cn gf cf ge ce, V1 = .slice (some ⟨gn, 0, none⟩) (d.S + 1) cn ∧ V2 = .slice (some ⟨gf, 0, none⟩) (d.fo.length + 1) cf ∧ V3 = .slice (some ⟨ge, 0, none⟩) (d.en.length + 1) ce ∧ d.S + 1 ≤ cn ∧ cn ≤ 9223372036854775807 ∧ d.fo.length + 1 ≤ cf ∧ cf ≤ 9223372036854775807 ∧ d.en.length + 1 ≤ ce ∧ ce ≤ 9223372036854775807 ∧ A ≤ gn ∧ A ≤ gf ∧ A ≤ ge := by
  obtain ⟨gn, cn, en1, hgn, hcn, mcn⟩ := own_form (h.fam.own 4 _ _ _ (fm_at4 _ _ _ _ _)) h.n1
  obtain ⟨gf, cf, ef1, hgf, hcf, mcf⟩ := own_form (h.fam.own 5 _ _ _ (fm_at5 _ _ _ _ _)) h.n2
  obtain ⟨ge, ce, ee1, hge, hce, mce⟩ := own_form (h.fam.own 6 _ _ _ (fm_at6 _ _ _ _ _)) h.n3
  simp only at en1 ef1 ee1
  have t1 : ((rows.map fun p => cutv p.1) ++ [M]).length = d.S + 1 := by rw [List.length_append, List.length_map, h.len]; rfl
  have t2 : (u32s (d.fo ++ [77])).length = d.fo.length + 1 := by rw [u32s_len, List.length_append]; rfl
  have t3 : (u32s (d.en ++ [77])).length = d.en.length + 1 := by rw [u32s_len, List.length_append]; rfl
  simp only [t1] at en1 hcn
  simp only [t2] at ef1 hcf
  simp only [t3] at ee1 hce
  exact ⟨gn, cn, gf, cf, ge, ce, en1, ef1, ee1, hcn, mcn, hcf, mcf, hce, mce, hgn, hgf, hge⟩
theorem Cpy.marks (h : Cpy A u d bs rows V1 V2 V3 M) {gn cn gf cf ge ce : Nat} (e1 : V1 = .slice (some ⟨gn, 0, none⟩) (d.S + 1) cn) (e2 : V2 = .slice (some ⟨gf, 0, none⟩) (d.fo.length + 1) cf) (e3 : V3 = .slice (some ⟨ge, 0, none⟩) (d.en.length + 1) ce) : u.cell? ⟨gn, d.S, none⟩ = some M ∧ u.cell? ⟨gf, d.fo.length, none⟩ = some (.int .u32 77) ∧ u.cell? ⟨ge, d.en.length, none⟩ = some (.int .u32 77) := by
  subst e1 e2 e3
  have h4 := (h.fam.own 4 _ _ _ (fm_at4 _ _ _ _ _))
  have h5 := (h.fam.own 5 _ _ _ (fm_at5 _ _ _ _ _))
  have h6 := (h.fam.own 6 _ _ _ (fm_at6 _ _ _ _ _))
  have l4 := owns_lat h4
  have l5 := owns_lat h5
  have l6 := owns_lat h6
  have at_ : ∀ (g n c : Nat) (xs : List Value) (k : Nat) (x : Value), LAt u (.slice (some ⟨g, 0, none⟩) n c) xs → xs[k]? = some x → u.cell? ⟨g, k, none⟩ = some x := fun g n c xs k x hl hx => by
    obtain ⟨a, c', e, _, _, hc⟩ := hl.open
    obtain ⟨b, off, ea, hcell⟩ := hc k x hx
    cases e
    cases ea
    rwa [Nat.zero_add] at hcell
  refine ⟨at_ _ _ _ _ _ _ l4 ?_, at_ _ _ _ _ _ _ l5 ?_, at_ _ _ _ _ _ _ l6 ?_⟩
  · have : (rows.map fun p => cutv p.1).length = d.S := by rw [List.length_map, h.len]
    simp only
    rw [← this]
    simp
  · simp [u32s]
  · simp [u32s]
theorem Cpy.rowAt (h : Cpy A u d bs rows V1 V2 V3 M) {s : Nat} (hs : s < d.S) : ∃ g c, rows[s]? = some (.slice (some ⟨g, 0, none⟩) ((d.row s).length + 1) c, d.row s ++ [-77]) ∧ (d.row s).length + 1 ≤ c ∧ c ≤ 9223372036854775807 ∧ A ≤ g ∧ u.cell? ⟨g, (d.row s).length, none⟩ = some (.int .i64 (-77)) := by
  have hl : s < rows.length := by rw [h.len]; exact hs
  obtain ⟨p, hp⟩ : ∃ p, rows[s]? = some p := ⟨_, List.getElem?_eq_getElem hl⟩
  have hr := h.row s p hp
  have ho := h.fam.own (7 + s) 3 p.1 (ints p.2) (by rw [fm_at7, hp]; rfl)
  obtain ⟨g, c, e, hg, hc, hm⟩ := own_form ho (h.nn p (List.mem_of_getElem? hp))
  have hlen : (ints p.2).length = (d.row s).length + 1 := by rw [ints_len, hr, List.length_append]; rfl
  rw [hlen] at e hc
  have hp2 : p = (.slice (some ⟨g, 0, none⟩) ((d.row s).length + 1) c, d.row s ++ [-77]) := by rw [← e, ← hr]
  refine ⟨g, c, by rw [hp, hp2], hc, hm, hg, ?_⟩
  have hlat := owns_lat ho
  rw [e] at hlat
  obtain ⟨a, c', e', _, _, hcell⟩ := hlat.open
  obtain ⟨b, off, ea, hx⟩ := hcell (d.row s).length (.int .i64 (-77)) (by rw [hr]; simp [ints])
  have e5 := (Value.slice.inj e').1
  rw [ea] at e5
  cases e5
  rwa [Nat.zero_add] at hx
end
theorem sameT_self (d : Dt) : sameT d d = true := (sameT_iff d d).2 (sameD.refl d)
set_option maxRecDepth 20000 in
set_option maxHeartbeats 16000000 in
theorem kept_any (A : Nat) (d : Dt) (bs rows : List (Value × List Int)) (V1 V2 V3 M : Value) (D1 D2 D3 : Value) (Us : List Value) (w : World) (hC : Cpy A w d bs rows V1 V2 V3 M) (hd : DfAt w d D1 D2 D3 Us) (rc : R64 d.cl) (hbS : d.S ≤ 1048576) (hbR : ∀ s, (d.row s).length ≤ 1048576) (hbF : d.fo.length ≤ 1048576) (hbE : d.en.length ≤ 1048576) :
    Calls Tryd.prog 16 #[.agg (dv d.cl (cutv V1) (cutv V2) (cutv V3)), .agg (dv d.cl D1 D2 D3)] w fun e w' => e = .returned (.bool true) ∧ Below w.heap.size w w' := by
  obtain ⟨a1, c1, a2, c2, a3, c3, e1, e2, e3, l1, m1, l2, m2, l3, m3⟩ := hd.forms
  obtain ⟨gn, cn, gf, cf, ge, ce, f1, f2, f3, n1, p1, n2, p2, n3, p3, -, -, -⟩ := hC.forms
  have x1 : cutv V1 = .slice (some ⟨gn, 0, none⟩) d.S cn := by rw [f1]; rfl
  have x2 : cutv V2 = .slice (some ⟨gf, 0, none⟩) d.fo.length cf := by rw [f2]; rfl
  have x3 : cutv V3 = .slice (some ⟨ge, 0, none⟩) d.en.length ce := by rw [f3]; rfl
  have hT0 := hC.df hd.bf hd.be
  rw [x1, x2, x3] at hT0 ⊢
  rw [e1, e2, e3] at hd ⊢
  obtain ⟨S, hS⟩ : ∃ S, d.S = S := ⟨_, rfl⟩
  obtain ⟨nf, hnf⟩ : ∃ nf, d.fo.length = nf := ⟨_, rfl⟩
  obtain ⟨ne, hne⟩ : ∃ ne, d.en.length = ne := ⟨_, rfl⟩
  have hmk := fun (u : World) (h : Cpy A u d bs rows V1 V2 V3 M) => h.marks f1 f2 f3
  have HMK : Hid (∀ u, Below w.heap.size w u → u.cell? ⟨gn, S, none⟩ = some M ∧ u.cell? ⟨gf, nf, none⟩ = some (.int .u32 77) ∧ u.cell? ⟨ge, ne, none⟩ = some (.int .u32 77)) := fun u hu => by have := hmk u (hC.later hu); rwa [hS, hnf, hne] at this
  rw [hS, hnf, hne] at hT0 hd ⊢
  rw [hS] at n1 hbS l1
  rw [hnf] at n2 hbF l2
  rw [hne] at n3 hbE l3
  obtain ⟨w1, hw1⟩ : ∃ w1, w.alloc (.cells (dv d.cl (.slice (some ⟨gn, 0, none⟩) S cn) (.slice (some ⟨gf, 0, none⟩) nf cf) (.slice (some ⟨ge, 0, none⟩) ne ce)) 26) = w1 := ⟨_, rfl⟩
  obtain ⟨w2, hw2⟩ : ∃ w2, w1.alloc (.cells (dv d.cl (.slice a1 S c1) (.slice a2 nf c2) (.slice a3 ne c3)) 26) = w2 := ⟨_, rfl⟩
  obtain ⟨D, hD⟩ : ∃ D, w.heap.size = D := ⟨_, rfl⟩
  have z1 : w1.heap.size = D + 1 := by rw [← hw1, ← hD]; simp
  have k1 : Below w.heap.size w w1 := by rw [← hw1]; exact (Below.refl _ _).alloc (Nat.le_refl _) _
  have k2 : Below w1.heap.size w1 w2 := by rw [← hw2]; exact (Below.refl _ _).alloc (Nat.le_refl _) _
  have dd1 : DB w1 D d.cl (.slice (some ⟨gn, 0, none⟩) S cn) (.slice (some ⟨gf, 0, none⟩) nf cf) (.slice (some ⟨ge, 0, none⟩) ne ce) := by rw [← hw1, ← hD]; exact db_new w _ _ _ _
  have dd2 : DB w2 (D + 1) d.cl (.slice a1 S c1) (.slice a2 nf c2) (.slice a3 ne c3) := by rw [← hw2, ← z1]; exact db_new w1 _ _ _ _
  have HS : Hid (Sx w w2 D d d (.slice (some ⟨gn, 0, none⟩) S cn) (.slice (some ⟨gf, 0, none⟩) nf cf) (.slice (some ⟨ge, 0, none⟩) ne ce) (.slice a1 S c1) (.slice a2 nf c2) (.slice a3 ne c3) (rows.map fun p => cutv p.1) Us) := ⟨dd1.later k2, dd2, (hT0.later k1).later k2, (hd.later k1).later k2, below_step k1 k2⟩
  have HW : Hid ((w.alloc (.cells (dv d.cl (.slice (some ⟨gn, 0, none⟩) S cn) (.slice (some ⟨gf, 0, none⟩) nf cf) (.slice (some ⟨ge, 0, none⟩) ne ce)) 26)).alloc (.cells (dv d.cl (.slice a1 S c1) (.slice a2 nf c2) (.slice a3 ne c3)) 26) = w2) := by rw [hw1]; exact hw2
  have HDD : Hid (w.heap.size = D) := hD
  have HC : Hid (Cpy A w d bs rows V1 V2 V3 M) := hC
  have HSS : Hid (d.S = S) := hS
  have HBR : Hid (∀ s, (d.row s).length ≤ 1048576) := hbR
  obtain ⟨mh, mc, hM⟩ := hC.m
  subst hM
  have hne : Nonempty (Later w2) := ⟨⟨w2, Below.refl _ _⟩⟩
  have HSC : Hid (∀ u : Later w2, Calls Tryd.prog 19 #[.agg (dv d.cl (.slice (some ⟨gn, 0, none⟩) S cn) (.slice (some ⟨gf, 0, none⟩) nf cf) (.slice (some ⟨ge, 0, none⟩) ne ce)), .agg (dv d.cl (.slice a1 S c1) (.slice a2 nf c2) (.slice a3 ne c3))] u.at_ fun e w' => e = .returned (.bool true) ∧ Below u.at_.heap.size u.at_ w') := fun u => by
    have h := rsame_any d d _ _ _ _ _ _ _ Us u.at_ (HS.out.ta.later u.below) (HS.out.tb.later u.below) rc rc
    rw [sameT_self] at h
    exact h
  have HDA : Hid (∀ u : Later w2, DB u.at_ D d.cl (.slice (some ⟨gn, 0, none⟩) S cn) (.slice (some ⟨gf, 0, none⟩) nf cf) (.slice (some ⟨ge, 0, none⟩) ne ce)) := fun u => HS.out.da.later u.below
  have HDE : Hid (∀ u : Later w2, DB u.at_ (D + 1) d.cl (.slice a1 S c1) (.slice a2 nf c2) (.slice a3 ne c3)) := fun u => HS.out.db.later u.below
  have r1 : ∀ u : Later w2, u.at_.cell? ⟨D, 256, none⟩ = some (.slice (some ⟨gn, 0, none⟩) S cn) := fun u => (HDA.out u).hi.1
  have r2 : ∀ u : Later w2, u.at_.cell? ⟨D, 257, none⟩ = some (.slice (some ⟨gf, 0, none⟩) nf cf) := fun u => (HDA.out u).hi.2.1
  have r3 : ∀ u : Later w2, u.at_.cell? ⟨D, 258, none⟩ = some (.slice (some ⟨ge, 0, none⟩) ne ce) := fun u => (HDA.out u).hi.2.2
  have r4 : ∀ u : Later w2, u.at_.cell? ⟨D + 1, 256, none⟩ = some (.slice a1 S c1) := fun u => (HDE.out u).hi.1
  have r5 : ∀ u : Later w2, u.at_.cell? ⟨D + 1, 257, none⟩ = some (.slice a2 nf c2) := fun u => (HDE.out u).hi.2.1
  have r6 : ∀ u : Later w2, u.at_.cell? ⟨D + 1, 258, none⟩ = some (.slice a3 ne c3) := fun u => (HDE.out u).hi.2.2
  have HMU : Hid (∀ u : Later w2, u.at_.cell? ⟨gn, S, none⟩ = some (.slice (some mh) 1 mc) ∧ u.at_.cell? ⟨gf, nf, none⟩ = some (.int .u32 77) ∧ u.at_.cell? ⟨ge, ne, none⟩ = some (.int .u32 77)) := fun u => HMK.out u.at_ (below_step (below_step k1 k2) u.below)
  have r7 : ∀ u : Later w2, u.at_.cell? ⟨gn, S, none⟩ = some (.slice (some mh) 1 mc) := fun u => (HMU.out u).1
  have r8 : ∀ u : Later w2, u.at_.cell? ⟨gf, nf, none⟩ = some (.int .u32 77) := fun u => (HMU.out u).2.1
  have r9 : ∀ u : Later w2, u.at_.cell? ⟨ge, ne, none⟩ = some (.int .u32 77) := fun u => (HMU.out u).2.2
  have hn1 : (S : Int) + 1 ≤ (cn : Int) := by omega
  have hn2 : (nf : Int) + 1 ≤ (cf : Int) := by omega
  have hn3 : (ne : Int) + 1 ≤ (ce : Int) := by omega
  have hs1 : (S : Int) < (S : Int) + 1 := by omega
  have hs2 : (nf : Int) < (nf : Int) + 1 := by omega
  have hs3 : (ne : Int) < (ne : Int) + 1 := by omega
  clear hw1 hw2 hD z1 k1 k2 dd1 dd2 hd e1 e2 e3 f1 f2 f3 x1 x2 x3 hT0 hS hnf hmk hbR HMK hC rc
  go_enter Tryd.func16, Tryd.ntmps16
  go_upto_region 1 with fail
  rw [HW.out, HDD.out]
  clear HW
  refine wp_region_later (by kernel_rfl) (by kernel_rfl) ?_
  repeat (first
    | refine wpQuiet_load_dfa (.tmp 2) rfl rfl HDA.out rfl ?_
    | refine wpQuiet_load_dfa (.tmp 3) rfl rfl HDE.out rfl ?_
    | go_big_quiet_step (((go_at_call 19; exact calls_later (HSC.out _))))
    | quiet_step (((go_at_call 19; exact calls_later (HSC.out _)))))
  refine wpQuiet_nil ?_
  intro _ hw'
  obtain ⟨u, hw''⟩ := hw'
  subst hw''
  have HSY : Hid (Sx w u.at_ D d d (.slice (some ⟨gn, 0, none⟩) S cn) (.slice (some ⟨gf, 0, none⟩) nf cf) (.slice (some ⟨ge, 0, none⟩) ne ce) (.slice a1 S c1) (.slice a2 nf c2) (.slice a3 ne c3) (rows.map fun p => cutv p.1) Us) := HS.out.later u.below
  obtain ⟨w3, hw3⟩ : ∃ w3, w3 = u.at_ := ⟨_, rfl⟩
  rw [← hw3] at HSY ⊢
  clear hne r1 r2 r3 r4 r5 r6 r7 r8 r9 HDA HDE HSC HMU hw3 HS hs1 hs2 hs3 hn1 hn2 hn3
  have q1 := HSY.out.da.hi.1
  have HCW : Hid (Cpy A w3 d bs rows V1 V2 V3 (.slice (some mh) 1 mc)) := HC.out.later HSY.out.low
  go_wp2_with fail
  go_loop [60] (fun i => ∃ k : Nat, i = .int .i64 (k : Nat) ∧ k ≤ S) (fun i => S - (intOf i).toNat)
  case atStart => exact ⟨0, rfl, by omega⟩
  case round =>
    obtain ⟨k, rfl, hk⟩ := hrel
    by_cases hlt : k < S
    · have hlt' : (k : Int) < (S : Int) := by omega
      obtain ⟨g, c, hrk, hgc, hgm, -, hmark⟩ := HCW.out.rowAt (s := k) (by rw [HSS.out]; exact hlt)
      have hcell : w3.cell? ⟨gn, k, none⟩ = some (.slice (some ⟨g, 0, none⟩) (d.row k).length c) := by
        obtain ⟨a, c', e', _, _, hc'⟩ := HSY.out.ta.nx.open
        obtain ⟨b, off, ea, hx⟩ := hc' k (.slice (some ⟨g, 0, none⟩) (d.row k).length c) (by rw [List.getElem?_map, hrk]; rfl)
        have e5 := (Value.slice.inj e').1
        rw [ea] at e5
        cases e5
        rwa [Nat.zero_add] at hx
      obtain ⟨L, hL⟩ : ∃ L, (d.row k).length = L := ⟨_, rfl⟩
      have hLb : L ≤ 1048576 := by rw [← hL]; exact HBR.out k
      rw [hL] at hgc hmark hcell
      have hL1 : (L : Int) + 1 ≤ (c : Int) := by omega
      have hL2 : (L : Int) < (L : Int) + 1 := by omega
      clear hL hrk
      go_wp2
      go_round
      case rel => exact ⟨k + 1, by go_num, by omega⟩
      case measure => simp [intOf]; omega
    · have hlt' : ¬ (k : Int) < (S : Int) := by omega
      have HBE : Hid (Below w.heap.size w w3) := HSY.out.low
      go_wp2
      go_ret
      exact ⟨rfl, HBE.out⟩
theorem full_any (a : Option Addr) (n cap x : Nat) (zs : List Int) (w : World) (hn : n = zs.length) (hl : n ≤ 140737488355328) (hb : BytesAt w a zs) (hx : ∀ z ∈ zs, z = (x : Int)) :
    Calls Tryd.prog 17 #[.slice a n cap, .int .u8 (x : Nat)] w fun e w' => e = .returned (.bool true) ∧ w' = w := by
  have HB : Hid (BytesAt w a zs) := hb
  have HX : Hid (∀ z ∈ zs, z = (x : Int)) := hx
  have HN : Hid (n = zs.length) := hn
  clear hb hx hn
  go_enter Tryd.func17, Tryd.ntmps17
  go_wp2
  go_loop [8] (fun i => ∃ k : Nat, i = .int .i64 (k : Nat) ∧ k ≤ n) (fun i => n - (intOf i).toNat)
  case atStart => exact ⟨0, rfl, by omega⟩
  case round =>
    obtain ⟨k, rfl, hk⟩ := hrel
    by_cases hlt : k < n
    · have hlt' : (k : Int) < (n : Int) := by omega
      have hkz : k < zs.length := by have := HN.out; omega
      have hc : ∃ b off, a = some ⟨b, off, none⟩ ∧ w.cell? ⟨b, off + k, none⟩ = some (.int .u8 (x : Int)) := by
        rcases HB.out with h | ⟨b, off, e, hc⟩
        · rw [h] at hkz; simp at hkz
        · refine ⟨b, off, e, ?_⟩
          rw [hc k hkz]
          have := HX.out (zs.getD k 0) (by rw [List.getD_eq_getElem?_getD, List.getElem?_eq_getElem hkz]; exact List.getElem_mem _)
          rw [this]
      obtain ⟨b, off, rfl, hcell⟩ := hc
      clear hkz
      go_wp2
      go_round
      case rel => exact ⟨k + 1, by go_num, by omega⟩
      case measure => simp [intOf]; omega
    · have hlt' : ¬ (k : Int) < (n : Int) := by omega
      go_wp2
      go_ret
      exact ⟨rfl, rfl⟩
end Go.Proofs.YtdngileimmgdnaaDoor
