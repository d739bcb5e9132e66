/- TableDecodes from its third answer to its end. -/
import Derived.Test.YtdngileimmgdnaaDoorG48
import Derived.Test.YtdngileimmgdnaaDoorG49
import Derived.Test.YtdngileimmgdnaaDoorG50
import Derived.Test.YtdngileimmgdnaaDoorG51
namespace Go.Proofs.YtdngileimmgdnaaDoor
open Go Go.RowKit

section
variable {w3 u : World} {P6 P8 : Nat} {x y : Dt} {X1 X2 X3 Y1 Y2 Y3 : Value} {Us Ws : List Value} {mv : Value} {mz : List Int}
theorem Tp.fsts (h : Tp w3 u P6 P8 x y X1 X2 X3 Y1 Y2 Y3 Us Ws mv mz) : (Us.zip x.nx ++ Ws.zip y.nx).map Prod.fst = Us ++ Ws := by
  rw [List.map_append, List.map_fst_zip (by rw [h.lu]; exact Nat.le_refl _), List.map_fst_zip (by rw [h.lw]; exact Nat.le_refl _)]
theorem Tp.ones (h : Tp w3 u P6 P8 x y X1 X2 X3 Y1 Y2 Y3 Us Ws mv mz) : ∀ U ∈ Us ++ Ws, U.oneCell' = true := fun U hU => by
  rw [← h.fsts] at hU
  obtain ⟨p, hp, rfl⟩ := List.mem_map.1 hU
  obtain ⟨t, ht, e⟩ := List.mem_iff_getElem.1 hp
  exact own_1 (h.fam.own (4 * t + 2) 3 p.1 (ints p.2) (by rw [fd2, List.getElem?_eq_getElem ht, e]; rfl))
theorem Tp.shI (h : Tp w3 u P6 P8 x y X1 X2 X3 Y1 Y2 Y3 Us Ws mv mz) (hx : ∀ r ∈ x.nx, r.length ≤ 256) (hy : ∀ r ∈ y.nx, r.length ≤ 256) : ShI (Us ++ Ws).length 4096 0 (Us.zip x.nx ++ Ws.zip y.nx) := by
  refine ⟨?_, fun p hp => ?_, fun s p hs => by omega⟩
  · rw [← h.fsts, List.length_map]
  · rcases List.mem_append.1 hp with h' | h'
    · have := hx p.2 (List.of_mem_zip (a := p.1) (b := p.2) h').2; omega
    · have := hy p.2 (List.of_mem_zip (a := p.1) (b := p.2) h').2; omega
end
theorem head_all {w w3 u v5 v6 v7 v8 : World} {P3 P6 P8 P12 P14 : Nat} {x y dw z nw : Dt} {X1 X2 X3 Y1 Y2 Y3 Z1 Z2 Z3 N1 N2 N3 W1 W2 W3 : Value} {Us Ws Xw : List Value} {mv : Value} {mz b b' : List Int} {ez : Int} {t15 t16 t17 : Value}
    (h : Tp w3 u P6 P8 x y X1 X2 X3 Y1 Y2 Y3 Us Ws mv mz) (fx : DecF b v5 v6 x X1 X2 X3 Us) (fy : DecF b' v7 v8 y Y1 Y2 Y3 Ws) (h3 : DB w3 P3 dw.cl W1 W2 W3) (hdw : DfAt w3 dw W1 W2 W3 Xw) (hrw : R64 dw.cl) (sx : sameT x dw = true) (hz : DB u P12 z.cl Z1 Z2 Z3) (hn : DB u P14 nw.cl N1 N2 N3)
    (hs1 : Calls Tryd.prog 19 #[.agg (dv z.cl Z1 Z2 Z3), .agg (dv nw.cl N1 N2 N3)] u fun e w2 => e = .returned (.bool true) ∧ Below u.heap.size u w2) (hb : Below w.heap.size w w3) :
    Gf tl12 (bodyPost Tryd.prog Tryd.f6 fun e w2 => e = .returned (.bool true) ∧ Below w.heap.size w w2) (.pointer (some ⟨P3, 0, none⟩)) (.pointer (some ⟨P6, 0, none⟩)) (.pointer (some ⟨P8, 0, none⟩)) (.pointer (some ⟨P12, 0, none⟩)) (.int .i64 ez) (.pointer (some ⟨P14, 0, none⟩)) (.int .i64 ez) t15 t16 t17 u := by
  obtain ⟨xa1, xc1, xa2, xc2, xa3, xc3, xe1, xe2, xe3, -⟩ := fx.df.forms
  obtain ⟨ya1, yc1, ya2, yc2, ya3, yc3, ye1, ye2, ye3, -⟩ := fy.df.forms
  subst xe1 xe2 xe3 ye1 ye2 ye3
  refine tail12 (fun v hv => (h3.later h.low).later hv) (fun v hv => h.db6.later hv) hz hn hs1 (fun v hv => ?_) (fun u2 hb2 => ?_)
  · have hs := rsame_any x dw _ _ _ _ _ _ Us Xw v ((h.later hv).dfx fx.df.bf fx.df.be) (hdw.later (below_step h.low hv)) fx.r hrw
    rw [sx] at hs
    exact hs
  · have h2 := h.later hb2
    refine tail13 h2.db6 h2.db8 ?_
    have h3' := h2.later ((Below.refl u2.heap.size u2).alloc (Nat.le_refl _) (.cells #[.slice xa1 x.S xc1, .slice ya1 y.S yc1] 23))
    have lx : Us.length ≤ 4096 := by rw [fx.df.n]; exact fx.S
    have ly : Ws.length ≤ 4096 := by rw [fy.df.n]; exact fy.S
    refine tail14 h3'.db6 h3'.db8 (ints_any x.cl y.cl _ _ _ _ _ _ Us Ws _ (owns_lat (h3'.fam.own (4 * 0) _ _ _ (by rw [fd0]; rfl))) (owns_lat (h3'.fam.own (4 * 1) _ _ _ (by rw [fd0]; rfl))) (fun U hU => h3'.ones U (List.mem_append_left _ hU)) (fun U hU => h3'.ones U (List.mem_append_right _ hU)) lx ly) (fun lv w2 ⟨ho, hb3⟩ => ?_)
    obtain ⟨la, lc, el, -, -⟩ := own_f ho
    subst el
    have h4 := h3'.later hb3
    refine tail15 h4.db6 h4.db8 ?_
    refine gf_of (tail_all (td_start h2 rfl ho hb3 rfl) (h.shI fx.C fy.C) ⟨rfl, fun p hp => ?_, fun s p hs => by omega⟩ (by rw [List.length_append]; omega) (fun s p hp => ?_) hb)
    · simp only [List.mem_cons, List.not_mem_nil, or_false] at hp
      rcases hp with rfl | rfl | rfl | rfl
      · exact fx.F.1
      · exact fx.F.2
      · exact fy.F.1
      · exact fy.F.2
    · have hm := List.mem_of_getElem? hp
      simp only [List.mem_cons, List.not_mem_nil, or_false] at hm
      rcases hm with rfl | rfl
      · exact ⟨by show Us.length ≤ 4099; omega, fun _ => lx⟩
      · exact ⟨by show Ws.length ≤ 4099; omega, fun _ => ly⟩
end Go.Proofs.YtdngileimmgdnaaDoor
