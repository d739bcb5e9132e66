/- w := .. -/
import Derived.Test.YtdngileimmgdnaaDoorG47
import Derived.Test.YtdngileimmgdnaaDoorG48
import Derived.Test.YtdngileimmgdnaaDoorG49
import Derived.Test.YtdngileimmgdnaaDoorG50
namespace Go.Proofs.YtdngileimmgdnaaDoor
open Go Go.RowKit
attribute [local go_sem ↓] Go.wp_at_zero Go.wp_at_succ

set_option maxRecDepth 20000 in
set_option maxHeartbeats 16000000 in
theorem tail15 {Q : Exit → Act → World → Prop} {u : World} {P6 P8 : Nat} {f g : Nat → Int} {t3 t11 t12 t13 t14 t15 t16 t17 : Value} {xa1 : Option Addr} {x1 xc1 : Nat} {xa2 : Option Addr} {x2 xc2 : Nat} {xa3 : Option Addr} {x3 xc3 : Nat} {ya1 : Option Addr} {y1 yc1 : Nat} {ya2 : Option Addr} {y2 yc2 : Nat} {ya3 : Option Addr} {y3 yc3 : Nat}
    (H6 : Hid (DB u P6 f (.slice xa1 x1 xc1) (.slice xa2 x2 xc2) (.slice xa3 x3 xc3))) (H8 : Hid (DB u P8 g (.slice ya1 y1 yc1) (.slice ya2 y2 yc2) (.slice ya3 y3 yc3)))
    (next : Gf tl16 Q t3 (.pointer (some ⟨P6, 0, none⟩)) (.pointer (some ⟨P8, 0, none⟩)) t11 t12 t13 t14 t15 t16 (.slice (some ⟨u.heap.size, 0, none⟩) 4 4) (u.alloc (.cells #[.slice xa2 x2 xc2, .slice xa3 x3 xc3, .slice ya2 y2 yc2, .slice ya3 y3 yc3] 24))) : Gf tl15 Q t3 (.pointer (some ⟨P6, 0, none⟩)) (.pointer (some ⟨P8, 0, none⟩)) t11 t12 t13 t14 t15 t16 t17 u := by
  have p2 := H6.out.hi.2.1
  have p3 := H6.out.hi.2.2
  have r2 := H8.out.hi.2.1
  have r3 := H8.out.hi.2.2
  unfold Gf
  intro s0 s1 s2 s4 s5 s7 s9 s10 s18 s19 s20 s21 s22 s23 s24 s25 s26 s27 s28 s29 s30 s31 s32 s33 s34 s35 s36 s37 s38 s39 s40 s41 s42 s43 s44 s45 s46 s47 s48 s49 s50 s51 s52 s53 s54 s55 s56 s57 s58 s59 s60 s61 s62 s63 s64 s65 s66 s67 s68 s69 s70 s71 s72 s73 s74 s75 s76 s77 s78 s79 s80 s81 s82 s83 s84 s85 s86 s87 s88 s89 s90 s91 s92 s93 s94 s95 s96 s97 s98 s99 s100 s101 s102 s103 s104 s105 s106 s107 s108 s109 s110 s111 s112 s113 s114 s115 s116 s117 s118 s119 s120 s121 s122 s123 s124 s125 s126 s127 s128 s129 s130 s131 s132 s133 s134 s135 s136 s137 s138 s139 s140 s141 s142 s143 s144 s145 s146 s147 s148 s149 s150 s151 s152 s153 s154 s155 s156 s157 s158 s159 s160 s161 s162 s163 s164 s165 s166 s167 s168 s169 s170 s171 s172 s173 s174 s175 s176 s177 s178 s179 s180 s181 s182 s183 s184 s185 s186 s187 s188 s189 s190 s191 s192 s193 s194 s195 s196 s197 s198 s199 s200 s201 s202 s203 s204 s205 s206 s207 s208 s209 s210 s211 s212 s213 s214 s215 s216 s217 s218 s219 s220 s221 s222 s223 s224 s225 s226 s227 s228 s229 s230 s231 s232 s233 s234 s235 s236 s237 s238 s239 s240 s241 s242 s243 s244 s245 s246 s247 s248 s249 s250 s251 s252 s253 s254 s255 s256 s257 s258 s259 s260 s261 s262 s263 s264 s265 s266 s267 s268 s269 s270 s271 s272 s273 s274 s275 s276 s277 s278 s279 s280 s281 s282 s283 s284 s285 s286 s287 s288 s289 s290 s291 s292 s293 s294 s295 s296 s297 s298 s299 s300 s301 s302 s303 s304 s305 s306 s307 s308 s309 s310 s311 s312 s313 s314 s315 s316 s317 s318 s319 s320 s321 s322 s323 s324 s325 s326 s327 s328 s329 s330 s331 s332 s333
  conv => arg 2; whnf
  apply wp_seq_k
  intro K hK
  have HK : Hid (∀ a w, _ → K a w) := hK
  have HX : Hid _ := next
  clear hK next
  go_wp2_with fail
  refine HK.out _ _ ?_
  exact HX.out _ _ _ _ _ _ _ _ _ _ _ _ _ _ _ _ _ _ _ _ _ _ _ _ _ _ _ _ _ _ _ _ _ _ _ _ _ _ _ _ _ _ _ _ _ _ _ _ _ _ _ _ _ _ _ _ _ _ _ _ _ _ _ _ _ _ _ _ _ _ _ _ _ _ _ _ _ _ _ _ _ _ _ _ _ _ _ _ _ _ _ _ _ _ _ _ _ _ _ _ _ _ _ _ _ _ _ _ _ _ _ _ _ _ _ _ _ _ _ _ _ _ _ _ _ _ _ _ _ _ _ _ _ _ _ _ _ _ _ _ _ _ _ _ _ _ _ _ _ _ _ _ _ _ _ _ _ _ _ _ _ _ _ _ _ _ _ _ _ _ _ _ _ _ _ _ _ _ _ _ _ _ _ _ _ _ _ _ _ _ _ _ _ _ _ _ _ _ _ _ _ _ _ _ _ _ _ _ _ _ _ _ _ _ _ _ _ _ _ _ _ _ _ _ _ _ _ _ _ _ _ _ _ _ _ _ _ _ _ _ _ _ _ _ _ _ _ _ _ _ _ _ _ _ _ _ _ _ _ _ _ _ _ _ _ _ _ _ _ _ _ _ _ _ _ _ _ _ _ _ _ _ _ _ _ _ _ _ _ _ _ _ _ _ _ _ _ _ _ _ _ _ _ _ _ _ _ _ _ _ _ _ _ _ _ _ _ _ _ _ _ _ _ _ 
end Go.Proofs.YtdngileimmgdnaaDoor

/- TableDecodes from its third answer to its end. -/
namespace Go.Proofs.YtdngileimmgdnaaDoor
open Go Go.RowKit

section
variable {w3 u : World} {P6 P8 : Nat} {x y : Dt} {X1 X2 X3 Y1 Y2 Y3 : Value} {Us Ws : List Value} {mv : Value} {mz : List Int}
theorem Tp.fsts (h : Tp w3 u P6 P8 x y X1 X2 X3 Y1 Y2 Y3 Us Ws mv mz) : (Us.zip x.nx ++ Ws.zip y.nx).map Prod.fst = Us ++ Ws := by
  rw [List.map_append, List.map_fst_zip (by rw [h.lu]; exact Nat.le_refl _), List.map_fst_zip (by rw [h.lw]; exact Nat.le_refl _)]
theorem Tp.ones (h : Tp w3 u P6 P8 x y X1 X2 X3 Y1 Y2 Y3 Us Ws mv mz) : ∀ U ∈ Us ++ Ws, U.oneCell' = true := fun U hU => by
  rw [← h.fsts] at hU
  obtain ⟨p, hp, rfl⟩ := List.mem_map.1 hU
  obtain ⟨t, ht, e⟩ := List.mem_iff_getElem.1 hp
  exact own_1 (h.fam.own (4 * t + 2) 3 p.1 (ints p.2) (by rw [fd2, List.getElem?_eq_getElem ht, e]; rfl))
theorem Tp.shI (h : Tp w3 u P6 P8 x y X1 X2 X3 Y1 Y2 Y3 Us Ws mv mz) (hx : ∀ r ∈ x.nx, r.length ≤ 256) (hy : ∀ r ∈ y.nx, r.length ≤ 256) : ShI (Us ++ Ws).length 4096 0 (Us.zip x.nx ++ Ws.zip y.nx) := by
  refine ⟨?_, fun p hp => ?_, fun s p hs => by omega⟩
  · rw [← h.fsts, List.length_map]
  · rcases List.mem_append.1 hp with h' | h'
    · have := hx p.2 (List.of_mem_zip (a := p.1) (b := p.2) h').2; omega
    · have := hy p.2 (List.of_mem_zip (a := p.1) (b := p.2) h').2; omega
end
theorem head_all {w w3 u v5 v6 v7 v8 : World} {P3 P6 P8 P12 P14 : Nat} {x y dw z nw : Dt} {X1 X2 X3 Y1 Y2 Y3 Z1 Z2 Z3 N1 N2 N3 W1 W2 W3 : Value} {Us Ws Xw : List Value} {mv : Value} {mz b b' : List Int} {ez : Int} {t15 t16 t17 : Value}
    (h : Tp w3 u P6 P8 x y X1 X2 X3 Y1 Y2 Y3 Us Ws mv mz) (fx : DecF b v5 v6 x X1 X2 X3 Us) (fy : DecF b' v7 v8 y Y1 Y2 Y3 Ws) (h3 : DB w3 P3 dw.cl W1 W2 W3) (hdw : DfAt w3 dw W1 W2 W3 Xw) (hrw : R64 dw.cl) (sx : sameT x dw = true) (hz : DB u P12 z.cl Z1 Z2 Z3) (hn : DB u P14 nw.cl N1 N2 N3)
    (hs1 : Calls Tryd.prog 19 #[.agg (dv z.cl Z1 Z2 Z3), .agg (dv nw.cl N1 N2 N3)] u fun e w2 => e = .returned (.bool true) ∧ Below u.heap.size u w2) (hb : Below w.heap.size w w3) :
    Gf tl12 (bodyPost Tryd.prog Tryd.f6 fun e w2 => e = .returned (.bool true) ∧ Below w.heap.size w w2) (.pointer (some ⟨P3, 0, none⟩)) (.pointer (some ⟨P6, 0, none⟩)) (.pointer (some ⟨P8, 0, none⟩)) (.pointer (some ⟨P12, 0, none⟩)) (.int .i64 ez) (.pointer (some ⟨P14, 0, none⟩)) (.int .i64 ez) t15 t16 t17 u := by
  obtain ⟨xa1, xc1, xa2, xc2, xa3, xc3, xe1, xe2, xe3, -⟩ := fx.df.forms
  obtain ⟨ya1, yc1, ya2, yc2, ya3, yc3, ye1, ye2, ye3, -⟩ := fy.df.forms
  subst xe1 xe2 xe3 ye1 ye2 ye3
  refine tail12 (fun v hv => (h3.later h.low).later hv) (fun v hv => h.db6.later hv) hz hn hs1 (fun v hv => ?_) (fun u2 hb2 => ?_)
  · have hs := rsame_any x dw _ _ _ _ _ _ Us Xw v ((h.later hv).dfx fx.df.bf fx.df.be) (hdw.later (below_step h.low hv)) fx.r hrw
    rw [sx] at hs
    exact hs
  · have h2 := h.later hb2
    refine tail13 h2.db6 h2.db8 ?_
    have h3' := h2.later ((Below.refl u2.heap.size u2).alloc (Nat.le_refl _) (.cells #[.slice xa1 x.S xc1, .slice ya1 y.S yc1] 23))
    have lx : Us.length ≤ 4096 := by rw [fx.df.n]; exact fx.S
    have ly : Ws.length ≤ 4096 := by rw [fy.df.n]; exact fy.S
    refine tail14 h3'.db6 h3'.db8 (ints_any x.cl y.cl _ _ _ _ _ _ Us Ws _ (owns_lat (h3'.fam.own (4 * 0) _ _ _ (by rw [fd0]; rfl))) (owns_lat (h3'.fam.own (4 * 1) _ _ _ (by rw [fd0]; rfl))) (fun U hU => h3'.ones U (List.mem_append_left _ hU)) (fun U hU => h3'.ones U (List.mem_append_right _ hU)) lx ly) (fun lv w2 ⟨ho, hb3⟩ => ?_)
    obtain ⟨la, lc, el, -, -⟩ := own_f ho
    subst el
    have h4 := h3'.later hb3
    refine tail15 h4.db6 h4.db8 ?_
    refine gf_of (tail_all (td_start h2 rfl ho hb3 rfl) (h.shI fx.C fy.C) ⟨rfl, fun p hp => ?_, fun s p hs => by omega⟩ (by rw [List.length_append]; omega) (fun s p hp => ?_) hb)
    · simp only [List.mem_cons, List.not_mem_nil, or_false] at hp
      rcases hp with rfl | rfl | rfl | rfl
      · exact fx.F.1
      · exact fx.F.2
      · exact fy.F.1
      · exact fy.F.2
    · have hm := List.mem_of_getElem? hp
      simp only [List.mem_cons, List.not_mem_nil, or_false] at hm
      rcases hm with rfl | rfl
      · exact ⟨by show Us.length ≤ 4099; omega, fun _ => lx⟩
      · exact ⟨by show Ws.length ≤ 4099; omega, fun _ => ly⟩
end Go.Proofs.YtdngileimmgdnaaDoor
