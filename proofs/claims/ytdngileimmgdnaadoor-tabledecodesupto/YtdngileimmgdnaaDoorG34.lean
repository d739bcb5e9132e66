/- The walk of heronlaw12.TableEncodes. -/
import Derived.Test.YtdngileimmgdnaaDoorG33
import Derived.RegionTactic
namespace Go.Proofs.YtdngileimmgdnaaDoor
open Go Go.RowKit
attribute [local go_sem ↓] Go.wp_at_zero Go.wp_at_succ

theorem En.addB {w1 u v : World} {E : Nat} {d : Dt} {bs rows : List (Value × List Int)} {V1 V2 V3 M : Value} (h : En w1 u E d bs rows V1 V2 V3 M) (hb : Below u.heap.size u v) (h4 : bs.length < 4) {x : Value} {z : List Int} (ho : OwnsN v u.heap.size x z) : En w1 v E d (bs ++ [(x, z)]) rows V1 V2 V3 M := by
  have h2 := h.later hb
  refine ⟨⟨?_, h.c.len, h.c.row, h.c.nn, h.c.n1, h.c.n2, h.c.n3, h.c.m⟩, h2.low, h2.db, h.bf, h.be⟩
  have := h.c.fam.add hb (i := bs.length) (t := 5) (x := x) (xs := cellsOf z) (by rw [cellsOf_length]; exact ho.1) h.low.size
  rw [fm_bytes _ _ _ _ _ h4] at this
  exact this
theorem fam_one {w1 u v : World} (hlow : Below w1.heap.size w1 u) (hb : Below u.heap.size u v) {x : Value} {z : List Int} (ho : OwnsN v u.heap.size x z) : Fam w1.heap.size v (fm [(x, z)] [] (nilS, []) (nilS, []) (nilS, [])) := by
  have := (fam_none w1.heap.size u).add hb (i := 0) (t := 5) (x := x) (xs := cellsOf z) (by rw [cellsOf_length]; exact ho.1) hlow.size
  have e := fm_bytes [] [] (nilS, []) (nilS, []) (nilS, []) (by decide) x z
  rw [List.length_nil] at e
  rw [e] at this
  exact this
/-- the bytes that Encode answers -/
def encB (d : Dt) : List Int := if rightT d then imgT d else []
theorem encB_len (d : Dt) : (encB d).length ≤ 2200000 := by
  unfold encB
  split
  · rename_i h
    have hF := (fits_iff d).1 h
    have h1 := hF.imgT_len
    have h2 : d.S * (8 + 2 * d.C) ≤ 4096 * 520 := Nat.mul_le_mul hF.s2 (by have := hF.c2; omega)
    omega
  · simp
theorem encB_bs (d : Dt) : Rec.Bs (encB d) := by
  unfold encB
  split
  · exact bs_imgT d
  · exact Rec.bs_nil
theorem enc_post {d : Dt} {w w' : World} {e : Ending} (h : EncPost d w e w') : ∃ v, e = .returned (.tuple #[v, .int .i64 (if rightT d then 0 else 70)]) ∧ OwnsN w' w.heap.size v (encB d) ∧ Below w.heap.size w w' := by
  obtain ⟨⟨v, he, ho⟩, hb⟩ := h
  exact ⟨v, he, ho, hb⟩
/-- a table of the same sizes -/
structure Lk (d d2 : Dt) (S ne : Nat) : Prop where
  cl : d2.cl = d.cl
  S : d2.S = S
  en : d2.en.length = ne
  rl : ∀ s, (d2.row s).length = (d.row s).length
theorem Lk.set {d d2 : Dt} {S ne : Nat} (h : Lk d d2 S ne) {s j : Nat} (hs : s < d2.S) (x : Int) : Lk d (setRowD d2 s j x) S ne :=
  ⟨h.cl, by rw [setRowD_S]; exact h.S, h.en, fun t => by
    rw [setRowD_row _ _ hs]
    by_cases e : t = s
    · subst e
      rw [if_pos rfl, List.length_set]
      exact h.rl t
    · rw [if_neg e]
      exact h.rl t⟩
section
variable {w1 u : World} {E : Nat} {d : Dt} {bs rows : List (Value × List Int)} {V1 V2 V3 M : Value}
theorem En.cellN (h : En w1 u E d bs rows V1 V2 V3 M) {gn cn S : Nat} (hx : cutv V1 = .slice (some ⟨gn, 0, none⟩) S cn) {s g L c : Nat} {r : List Int} (hr : rows[s]? = some (.slice (some ⟨g, 0, none⟩) (L + 1) c, r)) : u.cell? ⟨gn, s, none⟩ = some (.slice (some ⟨g, 0, none⟩) L c) := by
  have hl := h.df.nx
  rw [hx] at hl
  obtain ⟨a, c', e', _, _, hc'⟩ := hl.open
  obtain ⟨b, off, ea, hcell⟩ := hc' s (.slice (some ⟨g, 0, none⟩) L c) (by rw [List.getElem?_map, hr]; rfl)
  have e5 := (Value.slice.inj e').1
  rw [ea] at e5
  cases e5
  rwa [Nat.zero_add] at hcell
theorem En.cellR (h : En w1 u E d bs rows V1 V2 V3 M) {s g L c : Nat} (hr : rows[s]? = some (.slice (some ⟨g, 0, none⟩) (L + 1) c, d.row s ++ [-77])) {k : Nat} (hk : k < (d.row s).length) (hL : (d.row s).length = L) : u.cell? ⟨g, k, none⟩ = some (.int .i64 ((d.row s).getD k 0)) ∧ u.frozen? ⟨g, k, none⟩ = false := by
  have ho := h.c.fam.own (7 + s) 3 _ (ints (d.row s ++ [-77])) (by rw [fm_at7, hr]; rfl)
  have hlen : (ints (d.row s ++ [-77])).length = L + 1 := by rw [ints_len, List.length_append, hL]; rfl
  constructor
  · obtain ⟨a, c', e', _, _, hc'⟩ := (owns_lat ho).open
    obtain ⟨b, off, ea, hcell⟩ := hc' k (.int .i64 ((d.row s).getD k 0)) (by simp only [ints, List.map_append]; rw [List.getElem?_append_left (by simpa using hk), List.getElem?_map, List.getElem?_eq_getElem hk, List.getD_eq_getElem?_getD, List.getElem?_eq_getElem hk]; rfl)
    have e5 := (Value.slice.inj e').1
    rw [ea] at e5
    cases e5
    rwa [Nat.zero_add] at hcell
  · rw [hlen] at ho
    exact ho.frozenAt k
end
/-- so far written over -/
def Fil (x : Int) (k n : Nat) (z : List Int) : Prop := z.length = n ∧ ∀ j, j < k → z.getD j 0 = x
theorem Fil.step {x : Int} {k n : Nat} {z : List Int} (h : Fil x k n z) (hk : k < n) : Fil x (k + 1) n (z.set k x) := by
  refine ⟨by rw [List.length_set]; exact h.1, fun j hj => ?_⟩
  rw [List.getD_eq_getElem?_getD]
  by_cases e : k = j
  · subst e
    rw [List.getElem?_set_self (by have := h.1; omega)]
    rfl
  · rw [List.getElem?_set_ne e, ← List.getD_eq_getElem?_getD]
    exact h.2 j (by omega)
theorem Fil.all {x : Int} {k n : Nat} {z : List Int} (h : Fil x k n z) (hk : n ≤ k) : ∀ y ∈ z, y = x := fun y hy => by
  obtain ⟨j, hj, rfl⟩ := List.getElem_of_mem hy
  have := h.2 j (by have := h.1; omega)
  rw [List.getD_eq_getElem?_getD, List.getElem?_eq_getElem hj] at this
  exact this
theorem En.at {w1 u : World} {E : Nat} {d : Dt} {bs rows : List (Value × List Int)} {V1 V2 V3 M : Value} (h : En w1 u E d bs rows V1 V2 V3 M) {q : Nat} (h4 : q < 4) {a : Option Addr} {n c : Nat} {z : List Int} (hq : bs[q]? = some (.slice a n c, z)) (hl : z.length = n) {k : Nat} (hk : k < n) : ∃ g, a = some ⟨g, 0, none⟩ ∧ u.cell? ⟨g, k, none⟩ = some (.int .u8 (z.getD k 0)) ∧ u.frozen? ⟨g, k, none⟩ = false := by
  have ho := h.byte h4 hq
  obtain ⟨a', c', e, hb, _, _, hg⟩ := bytes_of ho
  obtain ⟨g, rfl, _⟩ := hg (fun e => by rw [e] at hl; simp at hl; omega)
  have ea := (Value.slice.inj e).1
  subst ea
  have hc := (Value.slice.inj e).2.2
  subst hc
  refine ⟨g, rfl, ?_, ?_⟩
  · rcases hb with hb | ⟨b, off, e2, hcell⟩
    · rw [hb] at hl; simp at hl; omega
    · cases e2
      have := hcell k (by omega)
      rwa [Nat.zero_add] at this
  · rw [hl] at ho
    exact ho.frozenAt k
set_option maxRecDepth 20000 in
set_option maxHeartbeats 16000000 in
theorem encodes_any (d : Dt) (D1 D2 D3 : Value) (Us : List Value) (w : World) (hd : DfAt w d D1 D2 D3 Us) (rc : R64 d.cl) (hbS : d.S ≤ 1048576) (hbR : ∀ s, (d.row s).length ≤ 1048576) (hbF : d.fo.length ≤ 1048576) (hbE : d.en.length ≤ 1048576) (hT : Tab w) (h0 : 0 < w.heap.size) :
    Calls Tryd.prog 5 #[.agg (dv d.cl D1 D2 D3)] w fun e w' => e = .returned (.bool true) ∧ Below w.heap.size w w' := by
  obtain ⟨w1, hw1⟩ : ∃ w1, w.alloc (.cells (dv d.cl D1 D2 D3) 26) = w1 := ⟨_, rfl⟩
  obtain ⟨D, hD⟩ : ∃ D, w.heap.size = D := ⟨_, rfl⟩
  have k1 : Below w.heap.size w w1 := by rw [← hw1]; exact (Below.refl _ _).alloc (Nat.le_refl _) _
  have HD : Hid (DB w1 D d.cl D1 D2 D3) := by rw [← hw1, ← hD]; exact db_new w _ _ _ _
  have HTD : Hid (DfAt w1 d D1 D2 D3 Us) := hd.later k1
  have HW : Hid (w.alloc (.cells (dv d.cl D1 D2 D3) 26) = w1) := hw1
  have HDD : Hid (w.heap.size = D) := hD
  have HK1 : Hid (Below w.heap.size w w1) := k1
  have HT : Hid (∀ u, Below w1.heap.size w1 u → Tab u ∧ 0 < u.heap.size) := fun u hu => ⟨tab_below (below_step k1 hu) h0 hT, by have := (below_step k1 hu).size; omega⟩
  have HRC : Hid (R64 d.cl) := rc
  have HBD : Hid (d.S ≤ 1048576 ∧ (∀ s, (d.row s).length ≤ 1048576) ∧ d.fo.length ≤ 1048576 ∧ d.en.length ≤ 1048576) := ⟨hbS, hbR, hbF, hbE⟩
  clear hw1 hD k1 hd rc hbS hbR hbF hbE hT
  go_enter Tryd.func5, Tryd.ntmps5
  go_upto_region 1 with fail
  rw [HW.out, HDD.out]
  clear HW
  go_wp2_with fail
  refine (known_any w1 (HT.out w1 (Below.refl _ _)).1 (HT.out w1 (Below.refl _ _)).2).mono ?_
  rintro e w2 ⟨rfl, k2⟩
  have HK2 : Hid (Below w1.heap.size w1 w2) := k2
  have HD2 : Hid (DB w2 D d.cl D1 D2 D3) := HD.out.later k2
  have HRE : Hid (Calls Tryd.prog 14 #[.agg (dv d.cl D1 D2 D3)] w2 (EncPost d w2)) := rencode_any d D1 D2 D3 Us w2 (HTD.out.later k2) HRC.out
  clear k2
  go_wp2_with (refine wpList_load_dfa rfl (.tmp 1) rfl HD2.out rfl ?_)
  refine HRE.out.mono ?_
  rintro e w3 hpost
  obtain ⟨want, rfl, ho3, k3⟩ := enc_post hpost
  obtain ⟨ev, hev⟩ : ∃ ev : Int, (if rightT d = true then (0 : Int) else 70) = ev := ⟨_, rfl⟩
  have HEV : Hid ((if rightT d = true then (0 : Int) else 70) = ev) := hev
  rw [hev]
  obtain ⟨zw, hzw⟩ : ∃ zw, encB d = zw := ⟨_, rfl⟩
  have HZW : Hid (encB d = zw) := hzw
  rw [hzw] at ho3
  have HF3 : Hid (Fam w1.heap.size w3 (fm [(want, zw)] [] (nilS, []) (nilS, []) (nilS, []))) := fam_one HK2.out k3 ho3
  have HK3 : Hid (Below w1.heap.size w1 w3) := below_step HK2.out k3
  have HD3 : Hid (DB w3 D d.cl D1 D2 D3) := HD2.out.later k3
  have HCP : Hid (Calls Tryd.prog 15 #[.agg (dv d.cl D1 D2 D3)] w3 fun e w' => ∃ v, e = .returned v ∧ CopPost w3 d v w') := copied_any d D1 D2 D3 Us w3 (HTD.out.later HK3.out) HBD.out.1 HBD.out.2.1 HBD.out.2.2.1 HBD.out.2.2.2
  clear hpost ho3 k3 hev hzw HRE HK2 HD2
  go_wp2_with (refine wpList_load_dfa rfl (.tmp 1) rfl HD3.out rfl ?_)
  refine HCP.out.mono ?_
  rintro e w4 ⟨vc, rfl, ⟨rows, V1, V2, V3, M, rfl, hcp⟩, k4⟩
  have HC4 : Hid (Cpy w1.heap.size w4 d [(want, zw)] rows V1 V2 V3 M) := ⟨fam_merge HF3.out k4 hcp.fam HK3.out.size, hcp.len, hcp.row, hcp.nn, hcp.n1, hcp.n2, hcp.n3, hcp.m⟩
  have HK4 : Hid (Below w1.heap.size w1 w4) := below_step HK3.out k4
  have hones : (cutv V1).oneCell' = true ∧ (cutv V2).oneCell' = true ∧ (cutv V3).oneCell' = true := by
    obtain ⟨gn, cn, gf, cf, ge, ce, f1, f2, f3, -⟩ := hcp.forms
    rw [f1, f2, f3]
    exact ⟨rfl, rfl, rfl⟩
  have HONE : Hid ((cutv V1).oneCell' = true ∧ (cutv V2).oneCell' = true ∧ (cutv V3).oneCell' = true) := hones
  clear hcp k4 HCP HF3 hones HD3 HK3
  obtain ⟨E, hE⟩ : ∃ E, w4.heap.size = E := ⟨_, rfl⟩
  obtain ⟨w5, hw5⟩ : ∃ w5, w4.alloc (.cells (dv (fun _ => 0) nilV nilV nilV) 26) = w5 := ⟨_, rfl⟩
  have k5 : Below w4.heap.size w4 w5 := by rw [← hw5]; exact (Below.refl _ _).alloc (Nat.le_refl _) _
  have d5 : DB w5 E (fun _ => 0) nilV nilV nilV := by rw [← hw5, ← hE]; exact db_new w4 _ _ _ _
  obtain ⟨w6, hw6⟩ : ∃ w6, w5.setRow E (dv d.cl (cutv V1) (cutv V2) (cutv V3)) = w6 := ⟨_, rfl⟩
  have k6 : Below w4.heap.size w4 w6 := by rw [← hw6]; exact below_row k5 (by omega) _
  have HN6 : Hid (En w1 w6 E d [(want, zw)] rows V1 V2 V3 M) := ⟨HC4.out.later k6, below_step HK4.out k6, by rw [← hw6]; exact d5.row _ _ _ _, HTD.out.bf, HTD.out.be⟩
  have HW5 : Hid (w4.alloc (.cells (dv (fun _ => 0) nilV nilV nilV) 26) = w5) := hw5
  have HW6 : Hid (w5.setRow E (dv d.cl (cutv V1) (cutv V2) (cutv V3)) = w6) := hw6
  have HEE : Hid (w4.heap.size = E) := hE
  have hz := zeroDfa
  clear hE hw5 hw6 k5 k6 d5 HC4 HK4
  go_upto_region 5 with (refine wpList_store_dfa rfl (.tmp 5) (.tmp 26) rfl (db_new w4 (fun _ => 0) nilV nilV nilV) HONE.out rfl rfl ?_; rw [HW5.out, HEE.out, HW6.out])
  clear HW5 HW6 HEE hz
  have HEN : Hid (∀ u, En w1 u E d [(want, zw)] rows V1 V2 V3 M → Calls Tryd.prog 8 #[.agg (dv d.cl (cutv V1) (cutv V2) (cutv V3))] u (EncPost d u)) := fun u hu => encode_any d _ _ _ _ u hu.df (HT.out u hu.low).1 (HT.out u hu.low).2
  go_wp2_with (refine wpList_load_dfa rfl (.tmp 5) rfl HN6.out.db rfl ?_)
  refine (HEN.out w6 HN6.out).mono ?_
  rintro e w7 hpost
  obtain ⟨va, rfl, ho7, k7⟩ := enc_post hpost
  rw [HEV.out]
  rw [HZW.out] at ho7
  have HN7 : Hid (En w1 w7 E d [(want, zw), (va, zw)] rows V1 V2 V3 M) := HN6.out.addB k7 (by simp) ho7
  have HN7' : Hid (En w1 w7 E d [(want, zw)] rows V1 V2 V3 M) := HN6.out.later k7
  clear hpost ho7 k7 HN6
  go_wp2_with (refine wpList_load_dfa rfl (.tmp 5) rfl HN7.out.db rfl ?_)
  refine (HEN.out w7 HN7'.out).mono ?_
  rintro e w8 hpost
  obtain ⟨vb, rfl, ho8, k8⟩ := enc_post hpost
  rw [HEV.out]
  rw [HZW.out] at ho8
  have HN8 : Hid (En w1 w8 E d [(want, zw), (va, zw), (vb, zw)] rows V1 V2 V3 M) := HN7.out.addB k8 (by simp) ho8
  clear hpost ho8 k8 HN7 HN7' HEN
  obtain ⟨n, hn⟩ : ∃ n, zw.length = n := ⟨_, rfl⟩
  have HN : Hid (zw.length = n) := hn
  have hnb : n ≤ 2200000 := by rw [← hn, ← HZW.out]; exact encB_len d
  clear hn
  obtain ⟨aw, cw, ew, hbw, hcw, mcw, -⟩ := bytes_of (HN8.out.byte (k := 0) (by decide) rfl)
  obtain ⟨aa, ca, ea, hba, hca, mca, hga⟩ := bytes_of (HN8.out.byte (k := 1) (by decide) rfl)
  obtain ⟨ab, cb, eb, hbb, hcb, mcb, hgb⟩ := bytes_of (HN8.out.byte (k := 2) (by decide) rfl)
  rw [HN.out] at ew ea eb hcw hca hcb
  obtain ⟨want', hww⟩ : ∃ want', Value.slice aw n cw = want' := ⟨_, rfl⟩
  subst ew ea eb
  have hv1 := conv_string w8 aw n cw zw HN.out.symm hbw
  have hv2 := conv_string w8 aa n ca zw HN.out.symm hba
  have hv3 := conv_string w8 ab n cb zw HN.out.symm hbb
  obtain ⟨sw, hsw⟩ : ∃ sw, strOfNums zw = sw := ⟨_, rfl⟩
  rw [hsw] at hv1 hv2 hv3
  have HSW : Hid (strOfNums zw = sw) := hsw
  have HWW : Hid (Value.slice aw n cw = want') := hww
  rw [hww] at HN8
  clear hww
  have HD8 : Hid (DB w8 D d.cl D1 D2 D3) := HD.out.later HN8.out.low
  have HKE : Hid (Calls Tryd.prog 16 #[.agg (dv d.cl (cutv V1) (cutv V2) (cutv V3)), .agg (dv d.cl D1 D2 D3)] w8 fun e w' => e = .returned (.bool true) ∧ Below w8.heap.size w8 w') := kept_any w1.heap.size d _ rows V1 V2 V3 M D1 D2 D3 Us w8 HN8.out.c (HTD.out.later HN8.out.low) HRC.out HBD.out.1 HBD.out.2.1 HBD.out.2.2.1 HBD.out.2.2.2
  clear hsw hbw hba hbb hga hgb
  obtain ⟨fs, hu⟩ := underD
  have HU : Hid (Tryd.prog.underlying 26 = some (.struct fs)) := hu
  clear hu
  go_wp2_with fail
  refine wp_load_row _ (.tmp 5) rfl E rfl _ _ (0, 0) _ HN8.out.db HU.out rfl (by rw [dv_size]; exact sizeD) ?_
  go_wp2_with fail
  refine wp_load_row _ (.tmp 1) rfl D rfl _ _ (0, 0) _ HD8.out HU.out rfl (by rw [dv_size]; exact sizeD) ?_
  go_wp2_with fail
  refine HKE.out.mono ?_
  rintro e w9 ⟨rfl, k9⟩
  have HN9 : Hid (En w1 w9 E d [(want', zw), (.slice aa n ca, zw), (.slice ab n cb, zw)] rows V1 V2 V3 M) := HN8.out.later k9
  clear k9 HKE HN8 hv1 hv2 hv3 HD8
  go_wp2_with fail
  go_loopw [67] (fun i u => ∃ (k : Nat) (za : List Int), i = .int .i64 (k : Nat) ∧ k ≤ n ∧ Hid (Fil 91 k n za) ∧ Hid (En w1 u E d [(want', zw), (.slice aa n ca, za), (.slice ab n cb, zw)] rows V1 V2 V3 M)) (fun i _ => n - (intOf i).toNat)
  case atStart => exact ⟨0, zw, rfl, by omega, ⟨HN.out, fun j hj => by omega⟩, HN9⟩
  case round =>
    obtain ⟨k, za, rfl, hk, HFI, HNA⟩ := hrel
    clear HN9
    by_cases hlt : k < n
    · have hlt' : (k : Int) < (n : Int) := by omega
      obtain ⟨ga, hga, hcell, hfr⟩ := HNA.out.at (q := 1) (by decide) rfl HFI.out.1 hlt
      subst hga
      go_wp2
      go_roundw
      case rel => exact ⟨k + 1, za.set k 91, by go_num, by omega, HFI.out.step hlt, HNA.out.putB (k := 1) (by decide) rfl k 91⟩
      case measure => simp [intOf]; omega
    · have hlt' : ¬ (k : Int) < (n : Int) := by omega
      have HFA : Hid (∀ y ∈ za, y = 91) := HFI.out.all (by omega)
      have HLA : Hid (za.length = n) := HFI.out.1
      clear HFI
      obtain ⟨w10, hw10⟩ : ∃ w10, wr = w10 := ⟨_, rfl⟩
      rw [hw10] at HNA ⊢
      clear hw10
      obtain ⟨ab', cb', eb, hbb, -, -, -⟩ := bytes_of (HNA.out.byte (k := 2) (by decide) rfl)
      have eb1 := (Value.slice.inj eb).1
      subst eb1
      obtain ⟨aw', cw', ew, hbw, -, -, -⟩ := bytes_of (HNA.out.byte (k := 0) (by decide) rfl)
      have ew1 := (Value.slice.inj (HWW.out.trans ew)).1
      subst ew1
      have hv1 := conv_string w10 aw n cw zw HN.out.symm hbw
      have hv3 := conv_string w10 ab n cb zw HN.out.symm hbb
      rw [HSW.out] at hv1 hv3
      clear hbb hbw eb ew
      obtain ⟨gn, cn, gf, cf, ge, ce, f1, f2, f3, n1, p1, n2, p2, n3, p3, -, -, -⟩ := HNA.out.c.forms
      obtain ⟨S, hS⟩ : ∃ S, d.S = S := ⟨_, rfl⟩
      obtain ⟨ne, hne⟩ : ∃ ne, d.en.length = ne := ⟨_, rfl⟩
      have HX1 : Hid (cutv V1 = .slice (some ⟨gn, 0, none⟩) S cn) := by show _ = _; rw [f1, hS]; rfl
      have HX3 : Hid (cutv V3 = .slice (some ⟨ge, 0, none⟩) ne ce) := by show _ = _; rw [f3, hne]; rfl
      have HV3 : Hid (V3 = .slice (some ⟨ge, 0, none⟩) (ne + 1) ce) := by show _ = _; rw [f3, hne]
      have HSS : Hid (d.S = S) := hS
      have hSb : S ≤ 1048576 := by rw [← hS]; exact HBD.out.1
      have hEb : ne ≤ 1048576 := by rw [← hne]; exact HBD.out.2.2.2
      rw [hS] at n1
      rw [hne] at n3
      have HNE : Hid (d.en.length = ne) := hne
      clear f1 f2 f3 hS hne n2 p2
      have q3 := HNA.out.db.hi.2.2
      rw [HX3.out] at q3
      go_wp2_with fail
      go_loopw [82] (fun i u => ∃ (k : Nat) (d2 : Dt), i = .int .i64 (k : Nat) ∧ k ≤ ne ∧ Hid (Lk d d2 S ne) ∧ Hid (En w1 u E d2 [(want', zw), (.slice aa n ca, za), (.slice ab n cb, zw)] rows V1 V2 V3 M)) (fun i _ => ne - (intOf i).toNat)
      case atStart => exact ⟨0, d, rfl, by omega, ⟨rfl, HSS.out, HNE.out, fun _ => rfl⟩, HNA⟩
      case round =>
        obtain ⟨k2, d2, rfl, hk2, HLK, HNB⟩ := hrel
        by_cases hlt2 : k2 < ne
        · have hlt2' : (k2 : Int) < (ne : Int) := by omega
          have q3 := HNB.out.db.hi.2.2
          rw [HX3.out] at q3
          have ho := HNB.out.c.fam.own 6 _ _ _ (fm_at6 _ _ _ _ _)
          rw [HV3.out] at ho
          obtain ⟨y, hy⟩ : ∃ y, d2.en.getD k2 0 = y := ⟨_, rfl⟩
          have hyl : k2 < d2.en.length := by rw [HLK.out.en]; exact hlt2
          have hy2 : d2.en[k2]? = some y := by rw [← hy, List.getD_eq_getElem?_getD, List.getElem?_eq_getElem hyl]; rfl
          have hyb : y < 4294967296 := HNB.out.be y (List.mem_of_getElem? hy2)
          have hcell : wr.cell? ⟨ge, k2, none⟩ = some (.int .u32 (y : Nat)) := by
            have hlat := owns_lat ho
            obtain ⟨a, c', e', _, _, hc'⟩ := hlat.open
            obtain ⟨b, off, ea, hx⟩ := hc' k2 (.int .u32 (y : Nat)) (by simp only [u32s, List.map_append]; rw [List.getElem?_append_left (by simpa using hyl), List.getElem?_map, hy2]; rfl)
            have e5 := (Value.slice.inj e').1
            rw [ea] at e5
            cases e5
            rwa [Nat.zero_add] at hx
          have hfr : wr.frozen? ⟨ge, k2, none⟩ = false := by
            have hl : (u32s (d2.en ++ [77])).length = ne + 1 := by rw [u32s_len, List.length_append, HLK.out.en]; rfl
            simp only [hl] at ho
            exact ho.frozenAt k2
          have hor : bits .or .u32 (y : Int) 2147483648 = ((y ||| 2147483648 : Nat) : Int) := u32_or_nat y 2147483648 hyb (by decide)
          have hob : y ||| 2147483648 < 4294967296 := Nat.or_lt_two_pow (n := 32) hyb (by decide)
          obtain ⟨o2, ho2⟩ : ∃ o2, y ||| 2147483648 = o2 := ⟨_, rfl⟩
          rw [ho2] at hor hob
          clear ho hy hyl hy2 ho2
          go_wp2_with fail
          go_region
          go_wp2
          go_roundw
          case rel => exact ⟨k2 + 1, ⟨d2.cl, d2.nx, d2.fo, d2.en.set k2 o2⟩, by go_num, by omega, ⟨HLK.out.cl, HLK.out.S, by rw [List.length_set]; exact HLK.out.en, HLK.out.rl⟩, (HNB.out.putE HV3.out (by rw [HLK.out.en]; exact hlt2) hob).drew⟩
          case measure => simp [intOf]; omega
        · have hlt2' : ¬ (k2 : Int) < (ne : Int) := by omega
          obtain ⟨w11, hw11⟩ : ∃ w11, wr = w11 := ⟨_, rfl⟩
          rw [hw11] at HNB ⊢
          clear hw11 q3 hv1 hv3 HNA
          have q1 := HNB.out.db.hi.1
          rw [HX1.out] at q1
          go_wp2_with fail
          go_loopw [99] (fun i u => ∃ (s2 : Nat) (d3 : Dt) (rw3 : List (Value × List Int)), i = .int .i64 (s2 : Nat) ∧ s2 ≤ S ∧ Hid (Lk d d3 S ne) ∧ Hid (En w1 u E d3 [(want', zw), (.slice aa n ca, za), (.slice ab n cb, zw)] rw3 V1 V2 V3 M)) (fun i _ => S - (intOf i).toNat)
          case atStart => exact ⟨0, d2, rows, rfl, by omega, HLK, HNB⟩
          case round =>
            obtain ⟨s2, d3, rw3, rfl, hs2, HLC, HNC⟩ := hrel
            by_cases hlt3 : s2 < S
            · have hlt3' : (s2 : Int) < (S : Int) := by omega
              obtain ⟨g, c, hrk, hgc, hgm, -, -⟩ := HNC.out.c.rowAt (s := s2) (by rw [HLC.out.S]; exact hlt3)
              obtain ⟨L, hL⟩ : ∃ L, (d3.row s2).length = L := ⟨_, rfl⟩
              have hLb : L ≤ 1048576 := by rw [← hL, HLC.out.rl]; exact HBD.out.2.1 s2
              rw [hL] at hrk hgc
              have HLL : Hid ((d.row s2).length = L) := by show _ = _; rw [← HLC.out.rl]; exact hL
              have HRK : Hid (rw3[s2]? = some (.slice (some ⟨g, 0, none⟩) (L + 1) c, d3.row s2 ++ [-77])) := hrk
              have q1 := HNC.out.db.hi.1
              rw [HX1.out] at q1
              have hcw := HNC.out.cellN (gn := gn) (cn := cn) HX1.out HRK.out
              clear hL hrk
              obtain ⟨w12, hw12⟩ : ∃ w12, wr = w12 := ⟨_, rfl⟩
              rw [hw12] at HNC q1 hcw ⊢
              clear hw12
              go_wp2_with fail
              go_loopw [108] (fun i u => ∃ (k : Nat) (d4 : Dt) (rw4 : List (Value × List Int)), i = .int .i64 (k : Nat) ∧ k ≤ L ∧ Hid (Lk d d4 S ne) ∧ Hid (En w1 u E d4 [(want', zw), (.slice aa n ca, za), (.slice ab n cb, zw)] rw4 V1 V2 V3 M) ∧ Hid (rw4[s2]? = some (.slice (some ⟨g, 0, none⟩) (L + 1) c, d4.row s2 ++ [-77]))) (fun i _ => L - (intOf i).toNat)
              case atStart => exact ⟨0, d3, rw3, rfl, by omega, HLC, HNC, HRK⟩
              case round =>
                obtain ⟨k4, d4, rw4, rfl, hk4, HLD, HND, HRD⟩ := hrel
                by_cases hlt4 : k4 < L
                · have hlt4' : (k4 : Int) < (L : Int) := by omega
                  have q1 := HND.out.db.hi.1
                  rw [HX1.out] at q1
                  have hcw := HND.out.cellN (gn := gn) (cn := cn) HX1.out HRD.out
                  have hkl : k4 < (d4.row s2).length := by rw [HLD.out.rl, HLL.out]; exact hlt4
                  obtain ⟨hcell, hfr⟩ := HND.out.cellR HRD.out (k := k4) hkl (by rw [HLD.out.rl, HLL.out])
                  obtain ⟨z, hz⟩ : ∃ z : Int, (d4.row s2).getD k4 0 = z := ⟨_, rfl⟩
                  rw [hz] at hcell
                  clear hz
                  have HKL : Hid (k4 < (d4.row s2).length) := hkl
                  have HS2 : Hid (s2 < d4.S) := by show _ < _; rw [HLD.out.S]; exact hlt3
                  clear hkl
                  go_wp2_with fail
                  go_region
                  go_wp2
                  go_roundw
                  case rel => exact ⟨k4 + 1, _, _, by go_num, by omega, HLD.out.set HS2.out _, (HND.out.putR HS2.out HRD.out HKL.out _).drew, by rw [setRowD_row _ _ HS2.out, if_pos rfl]; exact List.getElem?_set_self (List.getElem?_eq_some_iff.1 HRD.out).1⟩
                  case measure => simp [intOf]; omega
                · have hlt4' : ¬ (k4 : Int) < (L : Int) := by omega
                  go_wp2
                  go_roundw
                  case rel => exact ⟨s2 + 1, d4, rw4, by go_num, by omega, HLD, HND⟩
                  case measure => simp [intOf]; omega
            · have hlt3' : ¬ (s2 : Int) < (S : Int) := by omega
              obtain ⟨w13, hw13⟩ : ∃ w13, wr = w13 := ⟨_, rfl⟩
              rw [hw13] at HNC ⊢
              clear hw13 q1 HNB HLK
              have HEX : Hid (Calls Tryd.prog 8 #[.agg (dv d3.cl (cutv V1) (cutv V2) (cutv V3))] w13 (EncPost d3 w13)) := encode_any d3 _ _ _ _ w13 HNC.out.df (HT.out w13 HNC.out.low).1 (HT.out w13 HNC.out.low).2
              go_wp2_with (refine wpList_load_dfa rfl (.tmp 5) rfl HNC.out.db rfl ?_)
              refine HEX.out.mono ?_
              rintro e w14 hpost
              obtain ⟨vx, rfl, ho14, k14⟩ := enc_post hpost
              obtain ⟨ev2, hev2⟩ : ∃ ev2 : Int, (if rightT d3 = true then (0 : Int) else 70) = ev2 := ⟨_, rfl⟩
              have HEV2 : Hid ((if rightT d3 = true then (0 : Int) else 70) = ev2) := hev2
              rw [hev2]
              obtain ⟨zx, hzx⟩ : ∃ zx, encB d3 = zx := ⟨_, rfl⟩
              have HZX : Hid (encB d3 = zx) := hzx
              rw [hzx] at ho14
              have HN14 : Hid (En w1 w14 E d3 [(want', zw), (.slice aa n ca, za), (.slice ab n cb, zw), (vx, zx)] rw3 V1 V2 V3 M) := HNC.out.addB k14 (by simp) ho14
              clear hpost ho14 k14 hev2 hzx HEX HNC
              have HRX : Hid (Calls Tryd.prog 14 #[.agg (dv d3.cl (cutv V1) (cutv V2) (cutv V3))] w14 (EncPost d3 w14)) := rencode_any d3 _ _ _ _ w14 HN14.out.df (by rw [HLC.out.cl]; exact HRC.out)
              go_wp2_with (refine wpList_load_dfa rfl (.tmp 5) rfl HN14.out.db rfl ?_)
              refine HRX.out.mono ?_
              rintro e w15 hpost
              obtain ⟨vn, rfl, ho15, k15⟩ := enc_post hpost
              rw [HEV2.out]
              rw [HZX.out] at ho15
              have HN15 : Hid (En w1 w15 E d3 [(want', zw), (.slice aa n ca, za), (.slice ab n cb, zw), (vx, zx)] rw3 V1 V2 V3 M) := HN14.out.later k15
              obtain ⟨m, hm⟩ : ∃ m, zx.length = m := ⟨_, rfl⟩
              have HM : Hid (zx.length = m) := hm
              have hmb : m ≤ 2200000 := by rw [← hm, ← HZX.out]; exact encB_len d3
              obtain ⟨an, cn2, en2, hbn, -⟩ := bytes_of ho15.1
              obtain ⟨ax, cx, ex, hbx, -⟩ := bytes_of (HN15.out.byte (k := 3) (by decide) rfl)
              rw [hm] at en2 ex
              subst en2 ex
              have hv4 := conv_string w15 ax m cx zx hm.symm hbx
              have hv5 := conv_string w15 an m cn2 zx hm.symm hbn
              obtain ⟨sx, hsx⟩ : ∃ sx, strOfNums zx = sx := ⟨_, rfl⟩
              rw [hsx] at hv4 hv5
              clear hpost ho15 k15 hm hbn hbx hsx HN14 HRX
              go_upto_region 34 with fail
              clear hv4 hv5
              go_wp2_with fail
              go_loopw [151] (fun i u => ∃ (k : Nat) (zz : List Int), i = .int .i64 (k : Nat) ∧ k ≤ n ∧ Hid (Fil 92 k n zz) ∧ Hid (En w1 u E d3 [(want', zw), (.slice aa n ca, za), (.slice ab n cb, zz), (.slice ax m cx, zx)] rw3 V1 V2 V3 M)) (fun i _ => n - (intOf i).toNat)
              case atStart => exact ⟨0, zw, rfl, by omega, ⟨HN.out, fun j hj => by omega⟩, HN15⟩
              case round =>
                obtain ⟨k5, zz5, rfl, hk5, HFI, HNF⟩ := hrel
                clear HN15
                by_cases hltf : k5 < n
                · have hltf' : (k5 : Int) < (n : Int) := by omega
                  obtain ⟨gx, hgx, hcell, hfr⟩ := HNF.out.at (q := 2) (by decide) rfl HFI.out.1 hltf
                  subst hgx
                  go_wp2
                  go_roundw
                  case rel => exact ⟨k5 + 1, zz5.set k5 92, by go_num, by omega, HFI.out.step hltf, HNF.out.putB (k := 2) (by decide) rfl k5 92⟩
                  case measure => simp [intOf]; omega
                · have hltf' : ¬ (k5 : Int) < (n : Int) := by omega
                  have HFA5 : Hid (∀ y ∈ zz5, y = 92) := HFI.out.all (by omega)
                  have HLA5 : Hid (zz5.length = n) := HFI.out.1
                  clear HFI
                  obtain ⟨v5, hv5⟩ : ∃ v, wr = v := ⟨_, rfl⟩
                  rw [hv5] at HNF ⊢
                  clear hv5
                  have HN16 : Hid (En w1 v5 E d3 [(want', zw), (.slice aa n ca, za), (.slice ab n cb, zz5), (.slice ax m cx, zx)] rw3 V1 V2 V3 M) := HNF
                  clear HNF
                  go_wp2_with fail
                  go_loopw [160] (fun i u => ∃ (k : Nat) (zz : List Int), i = .int .i64 (k : Nat) ∧ k ≤ m ∧ Hid (Fil 93 k m zz) ∧ Hid (En w1 u E d3 [(want', zw), (.slice aa n ca, za), (.slice ab n cb, zz5), (.slice ax m cx, zz)] rw3 V1 V2 V3 M)) (fun i _ => m - (intOf i).toNat)
                  case atStart => exact ⟨0, zx, rfl, by omega, ⟨HM.out, fun j hj => by omega⟩, HN16⟩
                  case round =>
                    obtain ⟨k6, zz6, rfl, hk6, HFI, HNF⟩ := hrel
                    clear HN16
                    by_cases hltf : k6 < m
                    · have hltf' : (k6 : Int) < (m : Int) := by omega
                      obtain ⟨gx, hgx, hcell, hfr⟩ := HNF.out.at (q := 3) (by decide) rfl HFI.out.1 hltf
                      subst hgx
                      go_wp2
                      go_roundw
                      case rel => exact ⟨k6 + 1, zz6.set k6 93, by go_num, by omega, HFI.out.step hltf, HNF.out.putB (k := 3) (by decide) rfl k6 93⟩
                      case measure => simp [intOf]; omega
                    · have hltf' : ¬ (k6 : Int) < (m : Int) := by omega
                      have HFA6 : Hid (∀ y ∈ zz6, y = 93) := HFI.out.all (by omega)
                      have HLA6 : Hid (zz6.length = m) := HFI.out.1
                      clear HFI
                      obtain ⟨v6, hv6⟩ : ∃ v, wr = v := ⟨_, rfl⟩
                      rw [hv6] at HNF ⊢
                      clear hv6
                      have HN17 : Hid (En w1 v6 E d3 [(want', zw), (.slice aa n ca, za), (.slice ab n cb, zz5), (.slice ax m cx, zz6)] rw3 V1 V2 V3 M) := HNF
                      clear HNF
                      go_wp2_with fail
                      go_loopw [6, 167] (fun b i u => ∃ (k : Nat) (zz : List Int), i = .int .i64 (k : Nat) ∧ k ≤ 3 ∧ Hid ((∀ y ∈ zz, y = 91) ∧ zz.length = n + k) ∧ Hid (En w1 u E d3 [(want', zw), (b, zz), (.slice ab n cb, zz5), (.slice ax m cx, zz6)] rw3 V1 V2 V3 M)) (fun _ i _ => 3 - (intOf i).toNat)
                      case atStart => exact ⟨0, za, rfl, by omega, ⟨HFA.out, HLA.out⟩, HN17⟩
                      case round =>
                        obtain ⟨k7, zz7, rfl, hk7, HZZ7, HNG⟩ := hrel
                        clear HN17
                        obtain ⟨wg, hwg⟩ : ∃ wg, wr = wg := ⟨_, rfl⟩
                        rw [hwg] at HNG ⊢
                        clear hwg
                        have HLZ : Hid (zz7.length ≤ 3000000) := by show _ ≤ _; have := HZZ7.out.2; omega
                        by_cases hltg : k7 < 3
                        · have hltg' : (k7 : Int) < 3 := by omega
                          have HAL : Hid (∀ o : Obj, Below wg.heap.size wg (wg.alloc o)) := fun o => (Below.refl _ _).alloc (Nat.le_refl _) _
                          go_wp2_with (at_builtin; refine wpList_append_en rfl (.tmp 169) (.tmp 170) rfl (HNG.out.later (HAL.out _)) (k := 1) (by decide) rfl rfl _ 91 rfl (lat_lit _ _ _ _) HLZ.out ?_; intro vv5 w5 hn5; have HN5 : Hid (En w1 w5 E d3 [(want', zw), (vv5, (zz7 ++ [91])), (.slice ab n cb, zz5), (.slice ax m cx, zz6)] rw3 V1 V2 V3 M) := hn5; clear hn5)
                          go_roundw
                          case rel => exact ⟨k7 + 1, zz7 ++ [91], by go_num, by omega, ⟨fun y hy => by rcases List.mem_append.1 hy with h | h; exact HZZ7.out.1 y h; simpa using h, by rw [List.length_append, HZZ7.out.2]; rfl⟩, HN5⟩
                          case measure => simp [intOf]; omega
                        · have hltg' : ¬ (k7 : Int) < 3 := by omega
                          obtain ⟨x7, hx7⟩ : ∃ x, u6 = x := ⟨_, rfl⟩
                          rw [hx7] at HNG ⊢
                          clear hx7 HLZ
                          have HN18 : Hid (En w1 wg E d3 [(want', zw), (x7, zz7), (.slice ab n cb, zz5), (.slice ax m cx, zz6)] rw3 V1 V2 V3 M) := HNG
                          clear HNG
                          go_wp2_with fail
                          go_loopw [8, 173] (fun b i u => ∃ (k : Nat) (zz : List Int), i = .int .i64 (k : Nat) ∧ k ≤ 3 ∧ Hid ((∀ y ∈ zz, y = 92) ∧ zz.length = n + k) ∧ Hid (En w1 u E d3 [(want', zw), (x7, zz7), (b, zz), (.slice ax m cx, zz6)] rw3 V1 V2 V3 M)) (fun _ i _ => 3 - (intOf i).toNat)
                          case atStart => exact ⟨0, zz5, rfl, by omega, ⟨HFA5.out, HLA5.out⟩, HN18⟩
                          case round =>
                            obtain ⟨k8, zz8, rfl, hk8, HZZ8, HNG⟩ := hrel
                            clear HN18
                            obtain ⟨wg, hwg⟩ : ∃ wg, wr = wg := ⟨_, rfl⟩
                            rw [hwg] at HNG ⊢
                            clear hwg
                            have HLZ : Hid (zz8.length ≤ 3000000) := by show _ ≤ _; have := HZZ8.out.2; omega
                            by_cases hltg : k8 < 3
                            · have hltg' : (k8 : Int) < 3 := by omega
                              have HAL : Hid (∀ o : Obj, Below wg.heap.size wg (wg.alloc o)) := fun o => (Below.refl _ _).alloc (Nat.le_refl _) _
                              go_wp2_with (at_builtin; refine wpList_append_en rfl (.tmp 175) (.tmp 176) rfl (HNG.out.later (HAL.out _)) (k := 2) (by decide) rfl rfl _ 92 rfl (lat_lit _ _ _ _) HLZ.out ?_; intro vv5 w5 hn5; have HN5 : Hid (En w1 w5 E d3 [(want', zw), (x7, zz7), (vv5, (zz8 ++ [92])), (.slice ax m cx, zz6)] rw3 V1 V2 V3 M) := hn5; clear hn5)
                              go_roundw
                              case rel => exact ⟨k8 + 1, zz8 ++ [92], by go_num, by omega, ⟨fun y hy => by rcases List.mem_append.1 hy with h | h; exact HZZ8.out.1 y h; simpa using h, by rw [List.length_append, HZZ8.out.2]; rfl⟩, HN5⟩
                              case measure => simp [intOf]; omega
                            · have hltg' : ¬ (k8 : Int) < 3 := by omega
                              obtain ⟨x8, hx8⟩ : ∃ x, u8 = x := ⟨_, rfl⟩
                              rw [hx8] at HNG ⊢
                              clear hx8 HLZ
                              have HN19 : Hid (En w1 wg E d3 [(want', zw), (x7, zz7), (x8, zz8), (.slice ax m cx, zz6)] rw3 V1 V2 V3 M) := HNG
                              clear HNG
                              go_wp2_with fail
                              go_loopw [14, 179] (fun b i u => ∃ (k : Nat) (zz : List Int), i = .int .i64 (k : Nat) ∧ k ≤ 3 ∧ Hid ((∀ y ∈ zz, y = 93) ∧ zz.length = m + k) ∧ Hid (En w1 u E d3 [(want', zw), (x7, zz7), (x8, zz8), (b, zz)] rw3 V1 V2 V3 M)) (fun _ i _ => 3 - (intOf i).toNat)
                              case atStart => exact ⟨0, zz6, rfl, by omega, ⟨HFA6.out, HLA6.out⟩, HN19⟩
                              case round =>
                                obtain ⟨k9, zz9, rfl, hk9, HZZ9, HNG⟩ := hrel
                                clear HN19
                                obtain ⟨wg, hwg⟩ : ∃ wg, wr = wg := ⟨_, rfl⟩
                                rw [hwg] at HNG ⊢
                                clear hwg
                                have HLZ : Hid (zz9.length ≤ 3000000) := by show _ ≤ _; have := HZZ9.out.2; omega
                                by_cases hltg : k9 < 3
                                · have hltg' : (k9 : Int) < 3 := by omega
                                  have HAL : Hid (∀ o : Obj, Below wg.heap.size wg (wg.alloc o)) := fun o => (Below.refl _ _).alloc (Nat.le_refl _) _
                                  go_wp2_with (at_builtin; refine wpList_append_en rfl (.tmp 181) (.tmp 182) rfl (HNG.out.later (HAL.out _)) (k := 3) (by decide) rfl rfl _ 93 rfl (lat_lit _ _ _ _) HLZ.out ?_; intro vv5 w5 hn5; have HN5 : Hid (En w1 w5 E d3 [(want', zw), (x7, zz7), (x8, zz8), (vv5, (zz9 ++ [93]))] rw3 V1 V2 V3 M) := hn5; clear hn5)
                                  go_roundw
                                  case rel => exact ⟨k9 + 1, zz9 ++ [93], by go_num, by omega, ⟨fun y hy => by rcases List.mem_append.1 hy with h | h; exact HZZ9.out.1 y h; simpa using h, by rw [List.length_append, HZZ9.out.2]; rfl⟩, HN5⟩
                                  case measure => simp [intOf]; omega
                                · have hltg' : ¬ (k9 : Int) < 3 := by omega
                                  obtain ⟨x9, hx9⟩ : ∃ x, u14 = x := ⟨_, rfl⟩
                                  rw [hx9] at HNG ⊢
                                  clear hx9 HLZ
                                  have HN20 : Hid (En w1 wg E d3 [(want', zw), (x7, zz7), (x8, zz8), (x9, zz9)] rw3 V1 V2 V3 M) := HNG
                                  clear HNG
                                  obtain ⟨p1', q1', e1', hb1, -⟩ := bytes_of (HN20.out.byte (k := 1) (by decide) rfl)
                                  obtain ⟨p2', q2', e2', hb2, -⟩ := bytes_of (HN20.out.byte (k := 2) (by decide) rfl)
                                  obtain ⟨p3', q3', e3', hb3, -⟩ := bytes_of (HN20.out.byte (k := 3) (by decide) rfl)
                                  have HU1 : Hid (Calls Tryd.prog 17 #[.slice p1' zz7.length q1', .int .u8 ((91 : Nat) : Int)] wg fun e w' => e = .returned (.bool true) ∧ w' = wg) := full_any p1' _ q1' 91 zz7 wg rfl (by have := HZZ7.out.2; omega) hb1 HZZ7.out.1
                                  have HU2 : Hid (Calls Tryd.prog 17 #[.slice p2' zz8.length q2', .int .u8 ((92 : Nat) : Int)] wg fun e w' => e = .returned (.bool true) ∧ w' = wg) := full_any p2' _ q2' 92 zz8 wg rfl (by have := HZZ8.out.2; omega) hb2 HZZ8.out.1
                                  have HU3 : Hid (Calls Tryd.prog 17 #[.slice p3' zz9.length q3', .int .u8 ((93 : Nat) : Int)] wg fun e w' => e = .returned (.bool true) ∧ w' = wg) := full_any p3' _ q3' 93 zz9 wg rfl (by have := HZZ9.out.2; omega) hb3 HZZ9.out.1
                                  have HBE : Hid (Below w.heap.size w wg) := below_step HK1.out HN20.out.low
                                  rw [e1', e2', e3']
                                  clear hb1 hb2 hb3
                                  go_wp2_with fail
                                  refine HU1.out.mono ?_
                                  rintro e wf ⟨rfl, rfl⟩
                                  go_wp2_with fail
                                  refine HU2.out.mono ?_
                                  rintro e wf2 ⟨rfl, rfl⟩
                                  go_wp2_with fail
                                  refine HU3.out.mono ?_
                                  rintro e wf3 ⟨rfl, rfl⟩
                                  go_wp2
                                  go_ret
                                  exact ⟨rfl, HBE.out⟩
end Go.Proofs.YtdngileimmgdnaaDoor
