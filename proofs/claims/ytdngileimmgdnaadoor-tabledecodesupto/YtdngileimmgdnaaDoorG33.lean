/- heronlaw12.ints and own. -/
import Derived.Test.YtdngileimmgdnaaDoorG32
import Derived.Test.YtdngileimmgdnaaDoorG29
namespace Go.Proofs.YtdngileimmgdnaaDoor
open Go Go.RowKit
attribute [local go_sem ↓] Go.wp_at_zero Go.wp_at_succ

set_option maxRecDepth 20000 in
set_option maxHeartbeats 4000000 in
theorem ints_any (f g : Nat → Int) (X1 X2 X3 Y1 Y2 Y3 : Value) (Us Ws : List Value) (w : World) (hx : LAt w X1 Us) (hy : LAt w Y1 Ws) (h1 : ∀ u ∈ Us, u.oneCell' = true) (h2 : ∀ u ∈ Ws, u.oneCell' = true) (hl : Us.length ≤ 4096) (hm : Ws.length ≤ 4096) :
    Calls Tryd.prog 20 #[.agg (dv f X1 X2 X3), .agg (dv g Y1 Y2 Y3)] w fun e w' => ∃ v, e = .returned v ∧ w'.ownsRow w.heap.size 41 1 v (Us ++ Ws).length (Us ++ Ws) ∧ Below w.heap.size w w' := by
  obtain ⟨xa, xc, ex, _, _, _⟩ := hx.open
  obtain ⟨ya, yc, ey, _, _, _⟩ := hy.open
  obtain ⟨w1, hw1⟩ : ∃ w1, w.alloc (.cells (dv f X1 X2 X3) 26) = w1 := ⟨_, rfl⟩
  obtain ⟨w2, hw2⟩ : ∃ w2, w1.alloc (.cells (dv g Y1 Y2 Y3) 26) = w2 := ⟨_, rfl⟩
  obtain ⟨D, hD⟩ : ∃ D, w.heap.size = D := ⟨_, rfl⟩
  have z1 : w1.heap.size = D + 1 := by rw [← hw1, ← hD]; simp
  have k1 : Below w.heap.size w w1 := by rw [← hw1]; exact (Below.refl _ _).alloc (Nat.le_refl _) _
  have k2 : Below w1.heap.size w1 w2 := by rw [← hw2]; exact (Below.refl _ _).alloc (Nat.le_refl _) _
  have d1 : DB w2 D f X1 X2 X3 := by have := db_new w f X1 X2 X3; rw [hw1, hD] at this; exact this.later k2
  have d2 : DB w2 (D + 1) g Y1 Y2 Y3 := by rw [← hw2, ← z1]; exact db_new w1 _ _ _ _
  have HW : Hid ((w.alloc (.cells (dv f X1 X2 X3) 26)).alloc (.cells (dv g Y1 Y2 Y3) 26) = w2) := by rw [hw1]; exact hw2
  have HDD : Hid (w.heap.size = D) := hD
  have HK2 : Hid (Below w.heap.size w w2) := below_step k1 k2
  have HLX : Hid (LAt w2 (.slice xa Us.length xc) Us) := by rw [← ex]; exact (hx.later k1).later k2
  have HLY : Hid (LAt w2 (.slice ya Ws.length yc) Ws) := by rw [← ey]; exact (hy.later k1).later k2
  have HD1 : Hid (DB w2 D f (.slice xa Us.length xc) X2 X3) := by rw [← ex]; exact d1
  have HD2 : Hid (DB w2 (D + 1) g (.slice ya Ws.length yc) Y2 Y3) := by rw [← ey]; exact d2
  have H1 : Hid (∀ u ∈ Us, u.oneCell' = true) := h1
  have H2 : Hid (∀ u ∈ Ws, u.oneCell' = true) := h2
  clear hw1 hw2 hD z1 k1 k2 d1 d2 hx hy h1 h2 ex ey
  go_enter Tryd.func20, Tryd.ntmps20
  go_upto_region 1 with fail
  rw [HW.out, HDD.out]
  clear HW
  have q1 := HD1.out.hi.1
  obtain ⟨nU, hnU⟩ : ∃ nU, Us.length = nU := ⟨_, rfl⟩
  obtain ⟨nW, hnW⟩ : ∃ nW, Ws.length = nW := ⟨_, rfl⟩
  have HNU : Hid (Us.length = nU) := hnU
  have HNW : Hid (Ws.length = nW) := hnW
  rw [hnU] at q1 HLX HD1 hl
  rw [hnW] at HLY HD2 hm
  clear hnU hnW
  go_upto_region 3 with (at_builtin; refine wpList_append_lat rfl (.tmp 6) (.tmp 8) rfl (.slice none 0 0) 24 Tryd.underlying23 infR rfl w2.heap.size (.slice none 0 0) 0 [] rfl (World.ownsRow_nil w2 _ _ 1) _ Us rfl HLX.out H1.out (by rw [HNU.out]; simp only [maxLen]; omega) (by rw [HNU.out]; omega) (Nat.le_refl _) ?_; intro V5 w5 ho5 hg5 hn5 hh5; have HB5 : Hid (Below w2.heap.size w2 w5) := (Below.refl w2.heap.size w2).grown hg5 (Nat.le_refl _) (fun k hk => by simp [Value.ownBlock] at hk); have HO5 : Hid (w5.ownsRow w2.heap.size 41 1 V5 nU Us) := (by have h := ho5; simp only [Nat.zero_add, List.nil_append, HNU.out] at h; exact h); clear ho5 hg5 hn5 hh5)
  obtain ⟨va, vc, e5, -, -⟩ := own_f HO5.out
  subst e5
  have q2 := (HD2.out.later HB5.out).hi.1
  go_wp2_with (at_builtin; refine wpList_append_lat rfl (.tmp 10) (.tmp 12) rfl (.slice none 0 0) 24 Tryd.underlying23 infR rfl w2.heap.size _ nU Us rfl HO5.out _ Ws rfl (HLY.out.later HB5.out) H2.out (by rw [HNW.out]; simp only [maxLen]; omega) (by rw [HNW.out]; omega) HB5.out.size ?_; intro V6 w6 ho6 hg6 hn6 hh6; have HB6 : Hid (Below w2.heap.size w2 w6) := HB5.out.grown hg6 HB5.out.size (fun k hk => (own_at HO5.out k hk).1); have HO6 : Hid (w6.ownsRow w2.heap.size 41 1 V6 (nU + nW) (Us ++ Ws)) := (by have h := ho6; simp only [HNW.out] at h; exact h); clear ho6 hg6 hn6 hh6)
  have HFI : Hid (w6.ownsRow w.heap.size 41 1 V6 (Us ++ Ws).length (Us ++ Ws)) := by
    show World.ownsRow _ _ _ _ _ _ _
    rw [List.length_append, HNU.out, HNW.out]
    have h := HO6.out
    have hz : w.heap.size ≤ w2.heap.size := HK2.out.size
    refine ⟨h.1, ?_⟩
    rcases h.2 with h2 | ⟨g, cap, cur, hv, hBg, rest⟩
    · exact .inl h2
    · exact .inr ⟨g, cap, cur, hv, by omega, rest⟩
  have HBE : Hid (Below w.heap.size w w6) := below_step HK2.out HB6.out
  exact bodyPost_ret (v := V6) (by simp [results, Tryd.results20, go_sem]) rfl ⟨V6, rfl, HFI.out, HBE.out⟩
/-- rows that bear their marks -/
def MkI (rows : List (Value × List Int)) : Prop := ∀ (t : Nat) (p : Value × List Int), rows[t]? = some p → ∀ z ∈ p.2, z = -1000 - (t : Int)
def MkW (ws : List (Value × List Nat)) : Prop := ∀ (t : Nat) (p : Value × List Nat), ws[t]? = some p → ∀ z ∈ p.2, z = 1000 + t
set_option maxRecDepth 20000 in
set_option maxHeartbeats 4000000 in
theorem own_any (lv wv : Value) (rows : List (Value × List Int)) (ws : List (Value × List Nat)) (w : World) (hl : LAt w lv (rows.map Prod.fst)) (hr : ∀ p ∈ rows, LAt w p.1 (ints p.2) ∧ p.2.length ≤ 5000) (hw : LAt w wv (ws.map Prod.fst)) (hs : ∀ p ∈ ws, LAt w p.1 (u32s p.2) ∧ p.2.length ≤ 5000) (hN : rows.length ≤ 8192) (hW : ws.length = 4) (hi : MkI rows) (hk : MkW ws) :
    Calls Tryd.prog 21 #[lv, wv] w fun e w' => e = .returned (.bool true) ∧ w' = w := by
  obtain ⟨la, lc, el, hlc, hlm, hlat⟩ := hl.open
  obtain ⟨wa, wc', ew, hwc, hwm, hwat⟩ := hw.open
  rw [List.length_map] at el ew hlc hwc
  subst el ew
  obtain ⟨N, hNN⟩ : ∃ N, rows.length = N := ⟨_, rfl⟩
  have HLA : Hid (∀ k v, (rows.map Prod.fst)[k]? = some v → ∃ b off, la = some ⟨b, off, none⟩ ∧ w.cell? ⟨b, off + k, none⟩ = some v) := hlat
  have HWA : Hid (∀ k v, (ws.map Prod.fst)[k]? = some v → ∃ b off, wa = some ⟨b, off, none⟩ ∧ w.cell? ⟨b, off + k, none⟩ = some v) := hwat
  have HR : Hid (∀ p ∈ rows, LAt w p.1 (ints p.2) ∧ p.2.length ≤ 5000) := hr
  have HS : Hid (∀ p ∈ ws, LAt w p.1 (u32s p.2) ∧ p.2.length ≤ 5000) := hs
  have HI : Hid (MkI rows) := hi
  have HK : Hid (MkW ws) := hk
  have HNN : Hid (rows.length = N) := hNN
  have HW4 : Hid (ws.length = 4) := hW
  rw [hNN] at hN hlc ⊢
  rw [hW] at hwc ⊢
  clear hl hr hw hs hlat hwat hi hk hNN hW
  go_enter Tryd.func21, Tryd.ntmps21
  go_wp2
  go_loop [13] (fun i => ∃ t : Nat, i = .int .i64 (t : Nat) ∧ t ≤ N) (fun i => N - (intOf i).toNat)
  case atStart => exact ⟨0, rfl, by omega⟩
  case round =>
    obtain ⟨t, rfl, ht⟩ := hrel
    by_cases hlt : t < N
    · have hlt' : (t : Int) < (N : Int) := by omega
      obtain ⟨p, hp⟩ : ∃ p, rows[t]? = some p := ⟨_, List.getElem?_eq_getElem (by rw [HNN.out]; exact hlt)⟩
      obtain ⟨b, off, rfl, hcell⟩ := HLA.out t p.1 (by rw [List.getElem?_map, hp]; rfl)
      obtain ⟨hpl, hp5⟩ := HR.out p (List.mem_of_getElem? hp)
      obtain ⟨ra, rc, er, hrc, hrm, hrat⟩ := hpl.intAt
      have HMK : Hid (∀ z ∈ p.2, z = -1000 - (t : Int)) := HI.out t p hp
      obtain ⟨L, hL⟩ : ∃ L, p.2.length = L := ⟨_, rfl⟩
      rw [hL] at er hrc hrat hp5
      rw [er] at hcell
      have HRT : Hid (∀ k, k < L → ∃ b off, ra = some ⟨b, off, none⟩ ∧ w.cell? ⟨b, off + k, none⟩ = some (.int .i64 (p.2.getD k 0))) := hrat
      have HL : Hid (p.2.length = L) := hL
      clear hp hpl er hrat hL
      go_wp2
      go_loop [21] (fun i => ∃ k : Nat, i = .int .i64 (k : Nat) ∧ k ≤ L) (fun i => L - (intOf i).toNat)
      case atStart => exact ⟨0, rfl, by omega⟩
      case round =>
        obtain ⟨k, rfl, hk⟩ := hrel
        by_cases hltk : k < L
        · have hltk' : (k : Int) < (L : Int) := by omega
          obtain ⟨b2, o2, rfl, hc2⟩ := HRT.out k hltk
          have hz := HMK.out (p.2.getD k 0) (by rw [List.getD_eq_getElem?_getD, List.getElem?_eq_getElem (by rw [HL.out]; exact hltk)]; exact List.getElem_mem _)
          rw [hz] at hc2
          clear hz
          go_wp2
          go_round
          case rel => exact ⟨k + 1, by go_num, by omega⟩
          case measure => simp [intOf]; omega
        · have hltk' : ¬ (k : Int) < (L : Int) := by omega
          go_wp2
          go_round
          case rel => exact ⟨t + 1, by go_num, by omega⟩
          case measure => simp [intOf]; omega
    · have hlt' : ¬ (t : Int) < (N : Int) := by omega
      go_wp2_with fail
      go_loop [33] (fun i => ∃ t : Nat, i = .int .i64 (t : Nat) ∧ t ≤ 4) (fun i => 4 - (intOf i).toNat)
      case atStart => exact ⟨0, rfl, by omega⟩
      case round =>
        obtain ⟨t2, rfl, ht2⟩ := hrel
        by_cases hlt2 : t2 < 4
        · have hlt2' : (t2 : Int) < 4 := by omega
          obtain ⟨p, hp⟩ : ∃ p, ws[t2]? = some p := ⟨_, List.getElem?_eq_getElem (by rw [HW4.out]; exact hlt2)⟩
          obtain ⟨b, off, rfl, hcell⟩ := HWA.out t2 p.1 (by rw [List.getElem?_map, hp]; rfl)
          obtain ⟨hpl, hp5⟩ := HS.out p (List.mem_of_getElem? hp)
          obtain ⟨ra, rc, er, hrc, hrm, hrat⟩ := hpl.open
          rw [u32s_len] at er hrc
          have HMK : Hid (∀ z ∈ p.2, z = 1000 + t2) := HK.out t2 p hp
          obtain ⟨L, hL⟩ : ∃ L, p.2.length = L := ⟨_, rfl⟩
          have HRT : Hid (∀ k, k < L → ∃ b off, ra = some ⟨b, off, none⟩ ∧ w.cell? ⟨b, off + k, none⟩ = some (.int .u32 ((1000 + t2 : Nat) : Int))) := fun k hk => by
            have hkl : k < p.2.length := by omega
            have := HMK.out p.2[k] (List.getElem_mem hkl)
            exact hrat k _ (u32s_at (by rw [List.getElem?_eq_getElem hkl, this]))
          rw [hL] at er hrc hp5
          rw [er] at hcell
          clear hp hpl er hrat hL
          obtain ⟨m, hm⟩ : ∃ m, 1000 + t2 = m := ⟨_, rfl⟩
          rw [hm] at HRT
          have hmi : (1000 : Int) + (t2 : Int) = (m : Int) := by omega
          have hmm : (m : Int) % 4294967296 = (m : Int) := by omega
          clear hm
          go_wp2
          go_loop [41] (fun i => ∃ k : Nat, i = .int .i64 (k : Nat) ∧ k ≤ L) (fun i => L - (intOf i).toNat)
          case atStart => exact ⟨0, rfl, by omega⟩
          case round =>
            obtain ⟨k, rfl, hk⟩ := hrel
            by_cases hltk : k < L
            · have hltk' : (k : Int) < (L : Int) := by omega
              obtain ⟨b2, o2, rfl, hc2⟩ := HRT.out k hltk
              go_wp2
              go_round
              case rel => exact ⟨k + 1, by go_num, by omega⟩
              case measure => simp [intOf]; omega
            · have hltk' : ¬ (k : Int) < (L : Int) := by omega
              go_wp2
              go_round
              case rel => exact ⟨t2 + 1, by go_num, by omega⟩
              case measure => simp [intOf]; omega
        · have hlt2' : ¬ (t2 : Int) < 4 := by omega
          go_wp2
          go_ret
          exact ⟨rfl, rfl⟩
end Go.Proofs.YtdngileimmgdnaaDoor

/- What TableEncodes has in memory: rows of bytes, and a table in lists of its own. -/
namespace Go.Proofs.YtdngileimmgdnaaDoor
open Go Go.RowKit

theorem fam_merge {A : Nat} {u v : World} {bs rows : List (Value × List Int)} {nx : Value × List Value} {fo en : Value × List Nat} (h1 : Fam A u (fm bs [] (nilS, []) (nilS, []) (nilS, []))) (hb : Below u.heap.size u v) (h2 : Fam u.heap.size v (fm [] rows nx fo en)) (hA : A ≤ u.heap.size) : Fam A v (fm bs rows nx fo en) := by
  have hv := h1.later hb
  have lo : ∀ i, i < 4 → fm bs rows nx fo en i = fm bs [] (nilS, []) (nilS, []) (nilS, []) i := fun i hi => by rw [fm_at0 _ _ _ _ _ hi, fm_at0 _ _ _ _ _ hi]
  have hi' : ∀ i, ¬ i < 4 → fm bs rows nx fo en i = fm [] rows nx fo en i := fun i hi => by unfold fm; rw [if_neg hi, if_neg hi]
  refine ⟨fun i t x xs h => ?_, fun i j t x xs t' x' xs' k h h' hk hk' => ?_⟩
  · by_cases e : i < 4
    · rw [lo i e] at h
      exact hv.own i _ _ _ h
    · rw [hi' i e] at h
      exact (h2.lower hA).own i _ _ _ h
  · have cross : ∀ i j t x xs t' x' xs', i < 4 → ¬ j < 4 → fm bs rows nx fo en i = some (t, x, xs) → fm bs rows nx fo en j = some (t', x', xs') → x.ownBlock = some k → x'.ownBlock = some k → False := fun i j t x xs t' x' xs' hi hj h h' hk hk' => by
      rw [lo i hi] at h
      rw [hi' j hj] at h'
      have a1 := (own_at (h1.own i _ _ _ h) k hk).2.1
      have a2 := (own_at (h2.own j _ _ _ h') k hk').1
      omega
    by_cases e : i < 4 <;> by_cases e' : j < 4
    · rw [lo i e] at h
      rw [lo j e'] at h'
      exact hv.inj i j _ _ _ _ _ _ k h h' hk hk'
    · exact (cross i j _ _ _ _ _ _ e e' h h' hk hk').elim
    · exact (cross j i _ _ _ _ _ _ e' e h' h hk' hk).elim
    · rw [hi' i e] at h
      rw [hi' j e'] at h'
      exact h2.inj i j _ _ _ _ _ _ k h h' hk hk'
theorem cellsOf_set (z : List Int) (j : Nat) (x : Int) : (cellsOf z).set j (.int .u8 x) = cellsOf (z.set j x) := by simp [cellsOf, List.map_set]
theorem u32s_set (l : List Nat) (j x : Nat) : (u32s l).set j (.int .u32 (x : Nat)) = u32s (l.set j x) := by simp [u32s, List.map_set]
theorem ints_set (l : List Int) (j : Nat) (x : Int) : (ints l).set j (.int .i64 x) = ints (l.set j x) := by simp [ints, List.map_set]
theorem set_snoc {α : Type} (l : List α) (m x : α) {j : Nat} (hj : j < l.length) : (l ++ [m]).set j x = l.set j x ++ [m] := by rw [List.set_append_left _ _ hj]
structure En (w1 u : World) (E : Nat) (d : Dt) (bs rows : List (Value × List Int)) (V1 V2 V3 M : Value) : Prop where
  c : Cpy w1.heap.size u d bs rows V1 V2 V3 M
  low : Below w1.heap.size w1 u
  db : DB u E d.cl (cutv V1) (cutv V2) (cutv V3)
  bf : ∀ x ∈ d.fo, x < 4294967296
  be : ∀ x ∈ d.en, x < 4294967296
section
variable {w1 u v : World} {E : Nat} {d : Dt} {bs rows : List (Value × List Int)} {V1 V2 V3 M : Value}
theorem En.later (h : En w1 u E d bs rows V1 V2 V3 M) (hb : Below u.heap.size u v) : En w1 v E d bs rows V1 V2 V3 M := ⟨h.c.later hb, below_step h.low hb, h.db.later hb, h.bf, h.be⟩
theorem En.drew (h : En w1 u E d bs rows V1 V2 V3 M) : En w1 u.drew E d bs rows V1 V2 V3 M := h.later (Below.refl _ _).drew
theorem En.df (h : En w1 u E d bs rows V1 V2 V3 M) : DfAt u d (cutv V1) (cutv V2) (cutv V3) (rows.map fun p => cutv p.1) := h.c.df h.bf h.be
/-- the bytes of row k -/
theorem En.byte (h : En w1 u E d bs rows V1 V2 V3 M) {k : Nat} (h4 : k < 4) {v : Value} {z : List Int} (hk : bs[k]? = some (v, z)) : u.ownsRow w1.heap.size 5 1 v z.length (cellsOf z) := by
  have := h.c.fam.own k 5 v (cellsOf z) (by rw [fm_at0 _ _ _ _ _ h4, hk]; rfl)
  rwa [cellsOf_length] at this
theorem bytes_of {B : Nat} {v : Value} {z : List Int} (h : u.ownsRow B 5 1 v z.length (cellsOf z)) : ∃ a c, v = .slice a z.length c ∧ BytesAt u a z ∧ z.length ≤ c ∧ c ≤ 9223372036854775807 ∧ (z ≠ [] → ∃ g, a = some ⟨g, 0, none⟩ ∧ B ≤ g) := by
  rcases h.2 with ⟨rfl, h0⟩ | ⟨g, cap, cur, rfl, hB, hg, hc, hm, hs, ht⟩
  · exact ⟨none, 0, by rw [h0], .inl (List.eq_nil_of_length_eq_zero h0), by omega, by omega, fun hn => absurd (List.eq_nil_of_length_eq_zero h0) hn⟩
  · refine ⟨_, cap, rfl, .inr ⟨g, 0, rfl, fun k hk => ?_⟩, hc, by simp only [maxLen] at hm; omega, fun _ => ⟨g, rfl, hB⟩⟩
    have := h.cellAt k (by omega)
    rw [Nat.zero_add, this]
    simp [cellsOf, hk]
theorem En.db_put (h : En w1 u E d bs rows V1 V2 V3 M) {i : Nat} {t : TypeId} {g n c : Nat} {xs : List Value} (hi : fm bs rows (V1, (rows.map fun p => cutv p.1) ++ [M]) (V2, d.fo ++ [77]) (V3, d.en ++ [77]) i = some (t, .slice (some ⟨g, 0, none⟩) n c, xs)) (ht : t ≠ 26) (j : Nat) (x : Value) : DB (u.setCell ⟨g, j, none⟩ x) E d.cl (cutv V1) (cutv V2) (cutv V3) :=
  h.db.same (Below.heap_setCell u ⟨g, j, none⟩ x E (fun e => by
    have e' : E = g := e
    have h1 := (own_at (h.c.fam.own i _ _ _ hi) g rfl).2.2
    rw [← e'] at h1
    exact ht (TyB.ne h1 h.db.ty)))
theorem En.low_put (h : En w1 u E d bs rows V1 V2 V3 M) {i : Nat} {t : TypeId} {g n c : Nat} {xs : List Value} (hi : fm bs rows (V1, (rows.map fun p => cutv p.1) ++ [M]) (V2, d.fo ++ [77]) (V3, d.en ++ [77]) i = some (t, .slice (some ⟨g, 0, none⟩) n c, xs)) (j : Nat) (x : Value) : Below w1.heap.size w1 (u.setCell ⟨g, j, none⟩ x) :=
  h.low.setCell (p := ⟨g, j, none⟩) (own_at (h.c.fam.own i _ _ _ hi) g rfl).1 x
theorem En.putB (h : En w1 u E d bs rows V1 V2 V3 M) {k : Nat} (h4 : k < 4) {g n c : Nat} {z : List Int} (hk : bs[k]? = some (.slice (some ⟨g, 0, none⟩) n c, z)) (j : Nat) (x : Int) : En w1 (u.setCell ⟨g, j, none⟩ (.int .u8 x)) E d (bs.set k (.slice (some ⟨g, 0, none⟩) n c, z.set j x)) rows V1 V2 V3 M := by
  have hi : fm bs rows (V1, (rows.map fun p => cutv p.1) ++ [M]) (V2, d.fo ++ [77]) (V3, d.en ++ [77]) k = some (5, .slice (some ⟨g, 0, none⟩) n c, cellsOf z) := by rw [fm_at0 _ _ _ _ _ h4, hk]; rfl
  refine ⟨⟨?_, h.c.len, h.c.row, h.c.nn, h.c.n1, h.c.n2, h.c.n3, h.c.m⟩, h.low_put hi j _, h.db_put hi (by decide) j _, h.bf, h.be⟩
  have := h.c.fam.put hi j (.int .u8 x)
  rw [cellsOf_set, fm_byte _ _ _ _ _ (List.getElem?_eq_some_iff.1 hk).1 h4] at this
  exact this
theorem En.putE (h : En w1 u E d bs rows V1 V2 V3 M) {g n c : Nat} (h3 : V3 = .slice (some ⟨g, 0, none⟩) n c) {j : Nat} (hj : j < d.en.length) {x : Nat} (hx : x < 4294967296) : En w1 (u.setCell ⟨g, j, none⟩ (.int .u32 (x : Nat))) E ⟨d.cl, d.nx, d.fo, d.en.set j x⟩ bs rows V1 V2 V3 M := by
  subst h3
  have hi := fm_at6 bs rows (V1, (rows.map fun p => cutv p.1) ++ [M]) (V2, d.fo ++ [77]) (.slice (some ⟨g, 0, none⟩) n c, d.en ++ [77])
  refine ⟨⟨?_, h.c.len, h.c.row, h.c.nn, h.c.n1, h.c.n2, h.c.n3, h.c.m⟩, h.low_put hi j _, h.db_put hi (by decide) j _, h.bf, fun y hy => ?_⟩
  · have := h.c.fam.put hi j (.int .u32 (x : Nat))
    rw [u32s_set, set_snoc _ _ _ hj, fm_en] at this
    exact this
  · rcases List.mem_or_eq_of_mem_set hy with h' | h'
    · exact h.be y h'
    · rw [h']; exact hx
/-- a number of a row written over -/
def setRowD (d : Dt) (s j : Nat) (x : Int) : Dt := ⟨d.cl, d.nx.set s ((d.row s).set j x), d.fo, d.en⟩
theorem setRowD_row (d : Dt) {s j : Nat} (x : Int) (hs : s < d.S) (t : Nat) : (setRowD d s j x).row t = if t = s then (d.row s).set j x else d.row t := by
  unfold setRowD Dt.row
  simp only [List.getD_eq_getElem?_getD]
  by_cases e : t = s
  · subst e
    rw [List.getElem?_set_self hs]
    simp
  · rw [List.getElem?_set_ne (Ne.symm e)]
    simp [e]
theorem setRowD_S (d : Dt) (s j : Nat) (x : Int) : (setRowD d s j x).S = d.S := by simp [setRowD, Dt.S]
theorem En.putR (h : En w1 u E d bs rows V1 V2 V3 M) {s : Nat} (hs : s < d.S) {g n c : Nat} (hr : rows[s]? = some (.slice (some ⟨g, 0, none⟩) n c, d.row s ++ [-77])) {j : Nat} (hj : j < (d.row s).length) (x : Int) : En w1 (u.setCell ⟨g, j, none⟩ (.int .i64 x)) E (setRowD d s j x) bs (rows.set s (.slice (some ⟨g, 0, none⟩) n c, (d.row s).set j x ++ [-77])) V1 V2 V3 M := by
  have hi : fm bs rows (V1, (rows.map fun p => cutv p.1) ++ [M]) (V2, d.fo ++ [77]) (V3, d.en ++ [77]) (7 + s) = some (3, .slice (some ⟨g, 0, none⟩) n c, ints (d.row s ++ [-77])) := by rw [fm_at7, hr]; rfl
  have hsl : s < rows.length := (List.getElem?_eq_some_iff.1 hr).1
  have hmap : (rows.set s (.slice (some ⟨g, 0, none⟩) n c, (d.row s).set j x ++ [-77])).map (fun p => cutv p.1) = rows.map (fun p => cutv p.1) := by
    rw [List.map_set]
    apply List.ext_getElem?
    intro k
    by_cases e : s = k
    · subst e
      rw [List.getElem?_set_self (by simpa using hsl), List.getElem?_map, hr]
      rfl
    · rw [List.getElem?_set_ne e]
  refine ⟨⟨?_, by rw [List.length_set, setRowD_S]; exact h.c.len, fun t p hp => ?_, fun p hp => ?_, h.c.n1, h.c.n2, h.c.n3, h.c.m⟩, h.low_put hi j _, h.db_put hi (by decide) j _, h.bf, h.be⟩
  · have := h.c.fam.put hi j (.int .i64 x)
    rw [ints_set, set_snoc _ _ _ hj, fm_row _ _ _ _ _ hsl] at this
    rw [hmap]
    exact this
  · rw [setRowD_row d x hs]
    by_cases e : t = s
    · subst e
      rw [List.getElem?_set_self hsl] at hp
      cases hp
      rw [if_pos rfl]
    · rw [List.getElem?_set_ne (Ne.symm e)] at hp
      rw [if_neg e]
      exact h.c.row t p hp
  · rcases List.mem_or_eq_of_mem_set hp with h' | h'
    · exact h.c.nn p h'
    · rw [h']; simp
end
theorem infB : (Tryd.prog.info? 5).map (fun i => (i.zero, i.size, i.bytes)) = some (some (.int .u8 0), 1, 1) := by kernel_rfl
/-- a byte appended to a row of bytes -/
theorem wpList_append_en {u : World} {ops : Array Oper} {rest : List Oper} {o : Oper} {a : Act} {Q : Exit → Act → World → Prop} (hgd : o.guard = none) (s x : Operand)
    (ho : o.op = .call { callee := .builtin .append, args := #[s, x], argTypes := #[28, 28] })
    {w1 : World} {E : Nat} {d : Dt} {bs rows : List (Value × List Int)} {V1 V2 V3 M : Value} (h : En w1 u E d bs rows V1 V2 V3 M) {k : Nat} (h4 : k < 4) {V : Value} {z : List Int} (hk : bs[k]? = some (V, z)) (hs : a.eval s = V) (Y : Value) (y : Int) (hx : a.eval x = Y) (hY : LAt u Y [.int .u8 y]) (hl : z.length ≤ 3000000)
    (hh : ∀ V' w', En w1 w' E d (bs.set k (V', z ++ [y])) rows V1 V2 V3 M → wpList Tryd.prog ops Q rest (a.put o.dst V') w') : wpList Tryd.prog ops Q (o :: rest) a u := by
  have hi : fm bs rows (V1, (rows.map fun p => cutv p.1) ++ [M]) (V2, d.fo ++ [77]) (V3, d.en ++ [77]) k = some (5, V, cellsOf z) := by rw [fm_at0 _ _ _ _ _ h4, hk]; rfl
  have hown := h.c.fam.own k _ _ _ hi
  refine wpList_append_lat hgd s x ho (.int .u8 0) 1 Tryd.underlying28 infB rfl w1.heap.size V (cellsOf z).length (cellsOf z) hs hown Y [.int .u8 y] hx hY (fun v hv => by simp at hv; subst hv; rfl) (by rw [cellsOf_length]; simp only [maxLen, List.length_singleton]; omega) (by rw [cellsOf_length]; simp only [List.length_singleton]; omega) h.low.size ?_
  intro V' w' h2 h3 _ h5
  have e : cellsOf z ++ [Value.int .u8 y] = cellsOf (z ++ [y]) := by simp [cellsOf]
  have hf : Fam w1.heap.size w' (upd (fm bs rows (V1, (rows.map fun p => cutv p.1) ++ [M]) (V2, d.fo ++ [77]) (V3, d.en ++ [77])) k (5, V', cellsOf (z ++ [y]))) := h.c.fam.grown hi (by rw [← e, List.length_append]; exact h2) h3 h5
  rw [fm_byte _ _ _ _ _ (List.getElem?_eq_some_iff.1 hk).1 h4] at hf
  refine hh V' w' ⟨⟨hf, h.c.len, h.c.row, h.c.nn, h.c.n1, h.c.n2, h.c.n3, h.c.m⟩, h.low.grown h3 h.low.size (fun b hb => (own_at hown b hb).1), h.db.same (h3.block E h.db.lt (fun e => ?_)), h.bf, h.be⟩
  have h6 := (own_at hown E e.symm).2.2
  exact absurd (TyB.ne h6 h.db.ty) (by decide)
end Go.Proofs.YtdngileimmgdnaaDoor

/- What TableDecodes has in memory. -/
namespace Go.Proofs.YtdngileimmgdnaaDoor
open Go Go.RowKit

/-- THE ROWS: two tables' lists of rows (ns), their words (ws), their rows (rows), the bytes (mine); the lists that the law makes of them (lv, wv, rsv) -/
structure Td (w3 u : World) (ns : List (Value × List Value)) (lv : Value) (ws : List (Value × List Nat)) (rows : List (Value × List Int)) (mine : Rw) (rsv wv : Value) : Prop where
  fam : Fam w3.heap.size u (fd (ns ++ [(lv, rows.map Prod.fst)]) ws rows [mine, (23, rsv, ns.map Prod.fst), (24, wv, ws.map Prod.fst)])
  low : Below w3.heap.size w3 u
  two : ns.length = 2
section
variable {w3 u v : World} {ns : List (Value × List Value)} {lv : Value} {ws : List (Value × List Nat)} {rows : List (Value × List Int)} {mine : Rw} {rsv wv : Value}
theorem map_fst_set {α β : Type} (l : List (α × β)) (t : Nat) (a : α) (b : β) : (l.set t (a, b)).map Prod.fst = (l.map Prod.fst).set t a := by rw [List.map_set]
theorem set_same {α : Type} {l : List α} {t : Nat} {a : α} (h : l[t]? = some a) : l.set t a = l := by
  apply List.ext_getElem?
  intro k
  by_cases e : t = k
  · subst e
    rw [List.getElem?_set_self (List.getElem?_eq_some_iff.1 h).1, h]
  · rw [List.getElem?_set_ne e]
theorem Td.later (h : Td w3 u ns lv ws rows mine rsv wv) (hb : Below u.heap.size u v) : Td w3 v ns lv ws rows mine rsv wv := ⟨h.fam.later hb, below_step h.low hb, h.two⟩
theorem Td.ownR (h : Td w3 u ns lv ws rows mine rsv wv) {t : Nat} {p : Value × List Int} (hp : rows[t]? = some p) : u.ownsRow w3.heap.size 3 1 p.1 (ints p.2).length (ints p.2) := h.fam.own (4 * t + 2) _ _ _ (by rw [fd2, hp]; rfl)
theorem Td.ownW (h : Td w3 u ns lv ws rows mine rsv wv) {t : Nat} {p : Value × List Nat} (hp : ws[t]? = some p) : u.ownsRow w3.heap.size 27 1 p.1 (u32s p.2).length (u32s p.2) := h.fam.own (4 * t + 1) _ _ _ (by rw [fd1, hp]; rfl)
theorem Td.ownN (h : Td w3 u ns lv ws rows mine rsv wv) {t : Nat} {p : Value × List Value} (hp : ns[t]? = some p) : u.ownsRow w3.heap.size 41 1 p.1 p.2.length p.2 := h.fam.own (4 * t) _ _ _ (by rw [fd0, List.getElem?_append_left (List.getElem?_eq_some_iff.1 hp).1, hp]; rfl)
theorem Td.ownL (h : Td w3 u ns lv ws rows mine rsv wv) : u.ownsRow w3.heap.size 41 1 lv (rows.map Prod.fst).length (rows.map Prod.fst) := h.fam.own (4 * 2) _ _ _ (by rw [fd0, ← h.two]; simp)
theorem Td.ownS (h : Td w3 u ns lv ws rows mine rsv wv) : u.ownsRow w3.heap.size 23 1 rsv (ns.map Prod.fst).length (ns.map Prod.fst) := h.fam.own (4 * 1 + 3) _ _ _ (by rw [fd3]; rfl)
theorem Td.ownV (h : Td w3 u ns lv ws rows mine rsv wv) : u.ownsRow w3.heap.size 24 1 wv (ws.map Prod.fst).length (ws.map Prod.fst) := h.fam.own (4 * 2 + 3) _ _ _ (by rw [fd3]; rfl)
theorem Td.putI (h : Td w3 u ns lv ws rows mine rsv wv) {t g L c : Nat} {r : List Int} (hp : rows[t]? = some (.slice (some ⟨g, 0, none⟩) L c, r)) (k : Nat) (z : Int) : Td w3 (u.setCell ⟨g, k, none⟩ (.int .i64 z)) ns lv ws (rows.set t (.slice (some ⟨g, 0, none⟩) L c, r.set k z)) mine rsv wv := by
  have hi : fd (ns ++ [(lv, rows.map Prod.fst)]) ws rows [mine, (23, rsv, ns.map Prod.fst), (24, wv, ws.map Prod.fst)] (4 * t + 2) = some (3, .slice (some ⟨g, 0, none⟩) L c, ints r) := by rw [fd2, hp]; rfl
  refine ⟨?_, h.low.setCell (p := ⟨g, k, none⟩) (own_at (h.fam.own _ _ _ _ hi) g rfl).1 _, h.two⟩
  have := h.fam.put hi k (.int .i64 z)
  rw [ints_set, fd_set2 _ _ _ _ (List.getElem?_eq_some_iff.1 hp).1] at this
  rw [map_fst_set, set_same (by rw [List.getElem?_map, hp]; rfl)]
  exact this
theorem Td.putW (h : Td w3 u ns lv ws rows mine rsv wv) {t g L c : Nat} {r : List Nat} (hp : ws[t]? = some (.slice (some ⟨g, 0, none⟩) L c, r)) (k : Nat) (z : Nat) : Td w3 (u.setCell ⟨g, k, none⟩ (.int .u32 (z : Nat))) ns lv (ws.set t (.slice (some ⟨g, 0, none⟩) L c, r.set k z)) rows mine rsv wv := by
  have hi : fd (ns ++ [(lv, rows.map Prod.fst)]) ws rows [mine, (23, rsv, ns.map Prod.fst), (24, wv, ws.map Prod.fst)] (4 * t + 1) = some (27, .slice (some ⟨g, 0, none⟩) L c, u32s r) := by rw [fd1, hp]; rfl
  refine ⟨?_, h.low.setCell (p := ⟨g, k, none⟩) (own_at (h.fam.own _ _ _ _ hi) g rfl).1 _, h.two⟩
  have := h.fam.put hi k (.int .u32 (z : Nat))
  rw [u32s_set, fd_set1 _ _ _ _ (List.getElem?_eq_some_iff.1 hp).1] at this
  rw [map_fst_set, set_same (l := ws.map Prod.fst) (by rw [List.getElem?_map, hp]; rfl)]
  exact this
theorem Td.putN (h : Td w3 u ns lv ws rows mine rsv wv) {t g L c : Nat} {xs : List Value} (hp : ns[t]? = some (.slice (some ⟨g, 0, none⟩) L c, xs)) (k : Nat) (x : Value) : Td w3 (u.setCell ⟨g, k, none⟩ x) (ns.set t (.slice (some ⟨g, 0, none⟩) L c, xs.set k x)) lv ws rows mine rsv wv := by
  have ht := (List.getElem?_eq_some_iff.1 hp).1
  have hi : fd (ns ++ [(lv, rows.map Prod.fst)]) ws rows [mine, (23, rsv, ns.map Prod.fst), (24, wv, ws.map Prod.fst)] (4 * t) = some (41, .slice (some ⟨g, 0, none⟩) L c, xs) := by rw [fd0, List.getElem?_append_left ht, hp]; rfl
  refine ⟨?_, h.low.setCell (p := ⟨g, k, none⟩) (own_at (h.fam.own _ _ _ _ hi) g rfl).1 _, by rw [List.length_set]; exact h.two⟩
  have := h.fam.put hi k x
  rw [fd_set0 _ _ _ _ (by rw [List.length_append]; omega), List.set_append_left _ _ ht] at this
  rw [map_fst_set, set_same (l := ns.map Prod.fst) (by rw [List.getElem?_map, hp]; rfl)]
  exact this
/-- l[t] = append(l[t], ..) -/
theorem td_appI {V' : Value} {r' : List Int} {t gl N c : Nat} (hf : Fam w3.heap.size v (upd (fd (ns ++ [(.slice (some ⟨gl, 0, none⟩) N c, rows.map Prod.fst)]) ws rows [mine, (23, rsv, ns.map Prod.fst), (24, wv, ws.map Prod.fst)]) (4 * t + 2) (3, V', ints r'))) (hlow : Below w3.heap.size w3 v) (h2 : ns.length = 2) (ht : t < rows.length) : Td w3 (v.setCell ⟨gl, t, none⟩ V') ns (.slice (some ⟨gl, 0, none⟩) N c) ws (rows.set t (V', r')) mine rsv wv := by
  rw [fd_set2 _ _ _ _ ht] at hf
  have hi : fd (ns ++ [(.slice (some ⟨gl, 0, none⟩) N c, rows.map Prod.fst)]) ws (rows.set t (V', r')) [mine, (23, rsv, ns.map Prod.fst), (24, wv, ws.map Prod.fst)] (4 * 2) = some (41, .slice (some ⟨gl, 0, none⟩) N c, rows.map Prod.fst) := by rw [fd0, ← h2]; simp
  refine ⟨?_, hlow.setCell (p := ⟨gl, t, none⟩) (own_at (hf.own _ _ _ _ hi) gl rfl).1 _, h2⟩
  have := hf.put hi t V'
  rw [fd_set0 _ _ _ _ (by rw [List.length_append, h2]; simp), List.set_append_right _ _ (by omega), h2, Nat.sub_self] at this
  rw [map_fst_set]
  exact this
/-- w[t] = append(w[t], ..) -/
theorem td_appW {V' : Value} {r' : List Nat} {t gw N c : Nat} (hf : Fam w3.heap.size v (upd (fd (ns ++ [(lv, rows.map Prod.fst)]) ws rows [mine, (23, rsv, ns.map Prod.fst), (24, .slice (some ⟨gw, 0, none⟩) N c, ws.map Prod.fst)]) (4 * t + 1) (27, V', u32s r'))) (hlow : Below w3.heap.size w3 v) (h2 : ns.length = 2) (ht : t < ws.length) : Td w3 (v.setCell ⟨gw, t, none⟩ V') ns lv (ws.set t (V', r')) rows mine rsv (.slice (some ⟨gw, 0, none⟩) N c) := by
  rw [fd_set1 _ _ _ _ ht] at hf
  have hi : fd (ns ++ [(lv, rows.map Prod.fst)]) (ws.set t (V', r')) rows [mine, (23, rsv, ns.map Prod.fst), (24, .slice (some ⟨gw, 0, none⟩) N c, ws.map Prod.fst)] (4 * 2 + 3) = some (24, .slice (some ⟨gw, 0, none⟩) N c, ws.map Prod.fst) := by rw [fd3]; rfl
  refine ⟨?_, hlow.setCell (p := ⟨gw, t, none⟩) (own_at (hf.own _ _ _ _ hi) gw rfl).1 _, h2⟩
  have := hf.put hi t V'
  rw [fd_set3 _ _ _ _ (by simp)] at this
  rw [map_fst_set]
  exact this
/-- rows[t] = append(rows[t], ..) -/
theorem td_appN {V' : Value} {xs' : List Value} {t gs N c : Nat} (hf : Fam w3.heap.size v (upd (fd (ns ++ [(lv, rows.map Prod.fst)]) ws rows [mine, (23, .slice (some ⟨gs, 0, none⟩) N c, ns.map Prod.fst), (24, wv, ws.map Prod.fst)]) (4 * t) (41, V', xs'))) (hlow : Below w3.heap.size w3 v) (h2 : ns.length = 2) (ht : t < ns.length) : Td w3 (v.setCell ⟨gs, t, none⟩ V') (ns.set t (V', xs')) lv ws rows mine (.slice (some ⟨gs, 0, none⟩) N c) wv := by
  rw [fd_set0 _ _ _ _ (by rw [List.length_append]; omega), List.set_append_left _ _ ht] at hf
  have hi : fd (ns.set t (V', xs') ++ [(lv, rows.map Prod.fst)]) ws rows [mine, (23, .slice (some ⟨gs, 0, none⟩) N c, ns.map Prod.fst), (24, wv, ws.map Prod.fst)] (4 * 1 + 3) = some (23, .slice (some ⟨gs, 0, none⟩) N c, ns.map Prod.fst) := by rw [fd3]; rfl
  refine ⟨?_, hlow.setCell (p := ⟨gs, t, none⟩) (own_at (hf.own _ _ _ _ hi) gs rfl).1 _, by rw [List.length_set]; exact h2⟩
  have := hf.put hi t V'
  rw [fd_set3 _ _ _ _ (by simp)] at this
  rw [map_fst_set]
  exact this
/-- a cell of a row, and that it may be written -/
theorem row_cell {B : Nat} {e : TypeId} {a : Option Addr} {n c : Nat} {xs : List Value} (ho : u.ownsRow B e 1 (.slice a n c) xs.length xs) {k : Nat} {x : Value} (hk : xs[k]? = some x) : n = xs.length ∧ ∃ g, a = some ⟨g, 0, none⟩ ∧ B ≤ g ∧ TyB u e g ∧ u.cell? ⟨g, k, none⟩ = some x ∧ u.frozen? ⟨g, k, none⟩ = false := by
  rcases ho.2 with ⟨e1, h0⟩ | ⟨g, cap, cur, e1, hB, hg, _⟩
  · have := (List.getElem?_eq_some_iff.1 hk).1; omega
  · have ea := (Value.slice.inj e1).1
    have en := (Value.slice.inj e1).2.1
    have ec := (Value.slice.inj e1).2.2
    subst ea en ec
    refine ⟨rfl, g, rfl, hB, ⟨_, _, hg⟩, ?_, ho.frozenAt k⟩
    have := ho.cellAt k (by have := (List.getElem?_eq_some_iff.1 hk).1; omega)
    rw [this]
    exact hk
end
/-- a slice of the one number i, in a block of its own -/
def One (u : World) (v : Value) (i : Nat) : Prop := ∃ h, v = .slice (some ⟨h, 0, none⟩) 1 1 ∧ u.cell? ⟨h, 0, none⟩ = some (.int .i64 (i : Nat)) ∧ TyB u 3 h
theorem One.later {u v : World} {x : Value} {i : Nat} (h : One u x i) (hb : Below u.heap.size u v) : One v x i := by
  obtain ⟨g, e, hc, ht⟩ := h
  have hl := World.block_lt_of_cell? u _ hc
  exact ⟨g, e, cell_later hb _ _ _ hc, ht.same (hb.block g hl)⟩
theorem One.set {u : World} {x : Value} {i : Nat} (h : One u x i) {g k : Nat} {t : TypeId} (hg : TyB u t g) (ht : t ≠ 3) (y : Value) : One (u.setCell ⟨g, k, none⟩ y) x i := by
  obtain ⟨b, e, hc, hb⟩ := h
  have hne : b ≠ g := fun e => by subst e; exact ht (TyB.ne hg hb)
  have hbl := Below.heap_setCell u ⟨g, k, none⟩ y b hne
  exact ⟨b, e, by rw [← hc]; simp only [World.cell?, hbl], hb.same hbl⟩
theorem One.grown {u v : World} {x : Value} {i : Nat} (h : One u x i) {o : Option Nat} (hg : u.grownBy v o) {t : TypeId} (ho : ∀ k, o = some k → TyB u t k) (ht : t ≠ 3) : One v x i := by
  obtain ⟨b, e, hc, hb⟩ := h
  have hl := World.block_lt_of_cell? u _ hc
  have hbl := hg.block b hl (fun e => ht (TyB.ne (ho b e.symm) hb))
  exact ⟨b, e, by rw [← hc]; simp only [World.cell?, hbl], hb.same hbl⟩
theorem one_fresh (u : World) {m : Nat} (hm : m = u.heap.size) (i : Nat) : One (u.alloc (.cells #[.int .i64 (i : Nat)] 3)) (.slice (some ⟨m, 0, none⟩) 1 1) i := by
  subst hm
  exact ⟨_, rfl, by rw [World.cell?_alloc_mark]; rfl, ⟨_, _, heap_alloc_new u _⟩⟩
end Go.Proofs.YtdngileimmgdnaaDoor

/- What a round of TableDecodes' loops reads and writes. -/
namespace Go.Proofs.YtdngileimmgdnaaDoor
open Go Go.RowKit

section
variable {w3 u v : World} {ns : List (Value × List Value)} {lv : Value} {ws : List (Value × List Nat)} {rows : List (Value × List Int)} {mine : Rw} {rsv wv : Value}
theorem Td.atI {la : Option Addr} {N lc : Nat} (h : Td w3 u ns (.slice la N lc) ws rows mine rsv wv) {t : Nat} {V : Value} {r : List Int} (hp : rows[t]? = some (V, r)) : ∃ gl ra rc, la = some ⟨gl, 0, none⟩ ∧ V = .slice ra r.length rc ∧ u.cell? ⟨gl, t, none⟩ = some V ∧ u.frozen? ⟨gl, t, none⟩ = false ∧ r.length ≤ rc ∧ rc ≤ 9223372036854775807 ∧ ∀ k x, r[k]? = some x → ∃ g, ra = some ⟨g, 0, none⟩ ∧ u.cell? ⟨g, k, none⟩ = some (.int .i64 x) ∧ u.frozen? ⟨g, k, none⟩ = false := by
  obtain ⟨_, gl, e, _, _, hc, hf⟩ := row_cell h.ownL (k := t) (x := V) (by rw [List.getElem?_map, hp]; rfl)
  have ho := h.ownR hp
  obtain ⟨ra, rc, e2, h1, h2⟩ := own_f ho
  simp only at e2 ho
  rw [ints_len] at e2 h1
  refine ⟨gl, ra, rc, e, e2, hc, hf, h1, h2, fun k x hx => ?_⟩
  rw [e2] at ho
  obtain ⟨_, g, eg, _, _, hc', hf'⟩ := row_cell ho (k := k) (x := .int .i64 x) (by simp [ints, hx])
  exact ⟨g, eg, hc', hf'⟩
theorem Td.atW {wa : Option Addr} {N lc : Nat} (h : Td w3 u ns lv ws rows mine rsv (.slice wa N lc)) {t : Nat} {V : Value} {r : List Nat} (hp : ws[t]? = some (V, r)) : ∃ gl ra rc, wa = some ⟨gl, 0, none⟩ ∧ V = .slice ra r.length rc ∧ u.cell? ⟨gl, t, none⟩ = some V ∧ u.frozen? ⟨gl, t, none⟩ = false ∧ r.length ≤ rc ∧ rc ≤ 9223372036854775807 ∧ ∀ k x, r[k]? = some x → ∃ g, ra = some ⟨g, 0, none⟩ ∧ u.cell? ⟨g, k, none⟩ = some (.int .u32 (x : Nat)) ∧ u.frozen? ⟨g, k, none⟩ = false := by
  obtain ⟨_, gl, e, _, _, hc, hf⟩ := row_cell h.ownV (k := t) (x := V) (by rw [List.getElem?_map, hp]; rfl)
  have ho := h.ownW hp
  obtain ⟨ra, rc, e2, h1, h2⟩ := own_f ho
  simp only at e2 ho
  rw [u32s_len] at e2 h1
  refine ⟨gl, ra, rc, e, e2, hc, hf, h1, h2, fun k x hx => ?_⟩
  rw [e2] at ho
  obtain ⟨_, g, eg, _, _, hc', hf'⟩ := row_cell ho (k := k) (x := .int .u32 (x : Nat)) (by simp [u32s, hx])
  exact ⟨g, eg, hc', hf'⟩
theorem Td.atN {sa : Option Addr} {N lc : Nat} (h : Td w3 u ns lv ws rows mine (.slice sa N lc) wv) {t : Nat} {V : Value} {r : List Value} (hp : ns[t]? = some (V, r)) : ∃ gl ra rc, sa = some ⟨gl, 0, none⟩ ∧ V = .slice ra r.length rc ∧ u.cell? ⟨gl, t, none⟩ = some V ∧ u.frozen? ⟨gl, t, none⟩ = false ∧ r.length ≤ rc ∧ rc ≤ 9223372036854775807 ∧ ∀ k x, r[k]? = some x → ∃ g, ra = some ⟨g, 0, none⟩ ∧ u.cell? ⟨g, k, none⟩ = some x ∧ u.frozen? ⟨g, k, none⟩ = false := by
  obtain ⟨_, gl, e, _, _, hc, hf⟩ := row_cell h.ownS (k := t) (x := V) (by rw [List.getElem?_map, hp]; rfl)
  have ho := h.ownN hp
  obtain ⟨ra, rc, e2, h1, h2⟩ := own_f ho
  simp only at e2 ho
  refine ⟨gl, ra, rc, e, e2, hc, hf, h1, h2, fun k x hx => ?_⟩
  rw [e2] at ho
  obtain ⟨_, g, eg, _, _, hc', hf'⟩ := row_cell ho (k := k) (x := x) hx
  exact ⟨g, eg, hc', hf'⟩
end
/-- N rows, none longer than C; the first t bear their marks -/
structure ShI (N C t : Nat) (rows : List (Value × List Int)) : Prop where
  n : rows.length = N
  c : ∀ p ∈ rows, p.2.length ≤ C
  m : ∀ (s : Nat) (p : Value × List Int), s < t → rows[s]? = some p → ∀ z ∈ p.2, z = -1000 - (s : Int)
structure ShW (C t : Nat) (ws : List (Value × List Nat)) : Prop where
  n : ws.length = 4
  c : ∀ p ∈ ws, p.2.length ≤ C
  m : ∀ (s : Nat) (p : Value × List Nat), s < t → ws[s]? = some p → ∀ z ∈ p.2, z = 1000 + s
/-- the first k of a row of L bear the mark y -/
def Fl {α : Type} (y : α) (k L : Nat) (r : List α) : Prop := r.length = L ∧ ∀ j, j < k → r[j]? = some y
theorem Fl.step {α : Type} {y : α} {k L : Nat} {r : List α} (h : Fl y k L r) (hk : k < L) : Fl y (k + 1) L (r.set k y) := by
  refine ⟨by rw [List.length_set]; exact h.1, fun j hj => ?_⟩
  by_cases e : j = k
  · subst e; rw [List.getElem?_set_self (by rw [h.1]; exact hk)]
  · rw [List.getElem?_set_ne (by omega)]; exact h.2 j (by omega)
theorem Fl.all {α : Type} {y : α} {L : Nat} {r : List α} (h : Fl y L L r) : ∀ z ∈ r, z = y := fun z hz => by
  obtain ⟨j, hj, e⟩ := List.mem_iff_getElem.1 hz
  have := h.2 j (by rw [← h.1]; exact hj)
  rw [List.getElem?_eq_getElem hj] at this
  rw [← e]
  exact Option.some.inj this
theorem ShI.step {N C t : Nat} {rows : List (Value × List Int)} (h : ShI N C t rows) {V : Value} {r : List Int} (hr : ∀ z ∈ r, z = -1000 - (t : Int)) (hl : r.length ≤ C) (ht : t < N) : ShI N C (t + 1) (rows.set t (V, r)) := by
  refine ⟨by rw [List.length_set]; exact h.n, fun p hp => ?_, fun s p hs hp => ?_⟩
  · rcases List.mem_or_eq_of_mem_set hp with h' | h'
    · exact h.c p h'
    · rw [h']; exact hl
  · by_cases e : s = t
    · subst e
      rw [List.getElem?_set_self (by rw [h.n]; exact ht)] at hp
      cases hp
      exact hr
    · rw [List.getElem?_set_ne (by omega)] at hp
      exact h.m s p (by omega) hp
theorem ShW.step {C t : Nat} {ws : List (Value × List Nat)} (h : ShW C t ws) {V : Value} {r : List Nat} (hr : ∀ z ∈ r, z = 1000 + t) (hl : r.length ≤ C) (ht : t < 4) : ShW C (t + 1) (ws.set t (V, r)) := by
  refine ⟨by rw [List.length_set]; exact h.n, fun p hp => ?_, fun s p hs hp => ?_⟩
  · rcases List.mem_or_eq_of_mem_set hp with h' | h'
    · exact h.c p h'
    · rw [h']; exact hl
  · by_cases e : s = t
    · subst e
      rw [List.getElem?_set_self (by rw [h.n]; exact ht)] at hp
      cases hp
      exact hr
    · rw [List.getElem?_set_ne (by omega)] at hp
      exact h.m s p (by omega) hp
theorem ShI.mk' {N C : Nat} {rows : List (Value × List Int)} (h : ShI N C N rows) : MkI rows := fun t p hp => h.m t p (by have := (List.getElem?_eq_some_iff.1 hp).1; rw [h.n] at this; exact this) hp
theorem ShW.mk' {C : Nat} {ws : List (Value × List Nat)} (h : ShW C 4 ws) : MkW ws := fun t p hp => h.m t p (by have := (List.getElem?_eq_some_iff.1 hp).1; rw [h.n] at this; exact this) hp
/-- own, at what lies there -/
theorem own_td {w3 u : World} {ns : List (Value × List Value)} {lv : Value} {ws : List (Value × List Nat)} {rows : List (Value × List Int)} {mine : Rw} {rsv wv : Value} (h : Td w3 u ns lv ws rows mine rsv wv) {N C : Nat} (hi : ShI N C N rows) (hw : ShW C 4 ws) (hC : C ≤ 5000) (hN : N ≤ 8192) : Calls Tryd.prog 21 #[lv, wv] u fun e w' => e = .returned (.bool true) ∧ w' = u := by
  refine own_any lv wv rows ws u (owns_lat h.ownL) (fun p hp => ?_) (owns_lat h.ownV) (fun p hp => ?_) (by rw [hi.n]; exact hN) hw.n hi.mk' hw.mk'
  · obtain ⟨t, ht, e⟩ := List.mem_iff_getElem.1 hp
    exact ⟨owns_lat (h.ownR (t := t) (by rw [List.getElem?_eq_getElem ht, e])), by have := hi.c p hp; omega⟩
  · obtain ⟨t, ht, e⟩ := List.mem_iff_getElem.1 hp
    exact ⟨owns_lat (h.ownW (t := t) (by rw [List.getElem?_eq_getElem ht, e])), by have := hw.c p hp; omega⟩
end Go.Proofs.YtdngileimmgdnaaDoor
