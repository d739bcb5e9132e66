/- l := ints(x, y) -/
import Derived.Test.YtdngileimmgdnaaDoorG47
namespace Go.Proofs.YtdngileimmgdnaaDoor
open Go Go.RowKit
attribute [local go_sem ↓] Go.wp_at_zero Go.wp_at_succ

set_option maxRecDepth 20000 in
set_option maxHeartbeats 16000000 in
theorem tail14 {Q : Exit → Act → World → Prop} {u : World} {P6 P8 : Nat} {f g : Nat → Int} {t3 t11 t12 t13 t14 t15 t16 t17 : Value} {xa1 : Option Addr} {x1 xc1 : Nat} {xa2 : Option Addr} {x2 xc2 : Nat} {xa3 : Option Addr} {x3 xc3 : Nat} {ya1 : Option Addr} {y1 yc1 : Nat} {ya2 : Option Addr} {y2 yc2 : Nat} {ya3 : Option Addr} {y3 yc3 : Nat} {R : Value → World → Prop}
    (H6 : Hid (DB u P6 f (.slice xa1 x1 xc1) (.slice xa2 x2 xc2) (.slice xa3 x3 xc3))) (H8 : Hid (DB u P8 g (.slice ya1 y1 yc1) (.slice ya2 y2 yc2) (.slice ya3 y3 yc3))) (HC : Hid (Calls Tryd.prog 20 #[.agg (dv f (.slice xa1 x1 xc1) (.slice xa2 x2 xc2) (.slice xa3 x3 xc3)), .agg (dv g (.slice ya1 y1 yc1) (.slice ya2 y2 yc2) (.slice ya3 y3 yc3))] u fun e w2 => ∃ v, e = .returned v ∧ R v w2))
    (next : ∀ v w2, R v w2 → Gf tl15 Q t3 (.pointer (some ⟨P6, 0, none⟩)) (.pointer (some ⟨P8, 0, none⟩)) t11 t12 t13 t14 t15 v t17 w2) : Gf tl14 Q t3 (.pointer (some ⟨P6, 0, none⟩)) (.pointer (some ⟨P8, 0, none⟩)) t11 t12 t13 t14 t15 t16 t17 u := by
  obtain ⟨fs, hu⟩ := underD
  have HU : Hid (Tryd.prog.underlying 26 = some (.struct fs)) := hu
  clear hu
  unfold Gf
  intro s0 s1 s2 s4 s5 s7 s9 s10 s18 s19 s20 s21 s22 s23 s24 s25 s26 s27 s28 s29 s30 s31 s32 s33 s34 s35 s36 s37 s38 s39 s40 s41 s42 s43 s44 s45 s46 s47 s48 s49 s50 s51 s52 s53 s54 s55 s56 s57 s58 s59 s60 s61 s62 s63 s64 s65 s66 s67 s68 s69 s70 s71 s72 s73 s74 s75 s76 s77 s78 s79 s80 s81 s82 s83 s84 s85 s86 s87 s88 s89 s90 s91 s92 s93 s94 s95 s96 s97 s98 s99 s100 s101 s102 s103 s104 s105 s106 s107 s108 s109 s110 s111 s112 s113 s114 s115 s116 s117 s118 s119 s120 s121 s122 s123 s124 s125 s126 s127 s128 s129 s130 s131 s132 s133 s134 s135 s136 s137 s138 s139 s140 s141 s142 s143 s144 s145 s146 s147 s148 s149 s150 s151 s152 s153 s154 s155 s156 s157 s158 s159 s160 s161 s162 s163 s164 s165 s166 s167 s168 s169 s170 s171 s172 s173 s174 s175 s176 s177 s178 s179 s180 s181 s182 s183 s184 s185 s186 s187 s188 s189 s190 s191 s192 s193 s194 s195 s196 s197 s198 s199 s200 s201 s202 s203 s204 s205 s206 s207 s208 s209 s210 s211 s212 s213 s214 s215 s216 s217 s218 s219 s220 s221 s222 s223 s224 s225 s226 s227 s228 s229 s230 s231 s232 s233 s234 s235 s236 s237 s238 s239 s240 s241 s242 s243 s244 s245 s246 s247 s248 s249 s250 s251 s252 s253 s254 s255 s256 s257 s258 s259 s260 s261 s262 s263 s264 s265 s266 s267 s268 s269 s270 s271 s272 s273 s274 s275 s276 s277 s278 s279 s280 s281 s282 s283 s284 s285 s286 s287 s288 s289 s290 s291 s292 s293 s294 s295 s296 s297 s298 s299 s300 s301 s302 s303 s304 s305 s306 s307 s308 s309 s310 s311 s312 s313 s314 s315 s316 s317 s318 s319 s320 s321 s322 s323 s324 s325 s326 s327 s328 s329 s330 s331 s332 s333
  conv => arg 2; whnf
  apply wp_seq_k
  intro K hK
  have HK : Hid (∀ a w, _ → K a w) := hK
  have HX : Hid _ := next
  clear hK next
  go_wp2_with fail
  refine wp_load_row _ (.tmp 6) rfl P6 rfl _ _ (0, 0) _ H6.out HU.out rfl (by rw [dv_size]; exact sizeD) ?_
  go_wp2_with fail
  refine wp_load_row _ (.tmp 8) rfl P8 rfl _ _ (0, 0) _ H8.out HU.out rfl (by rw [dv_size]; exact sizeD) ?_
  go_wp2_with fail
  refine HC.out.mono ?_
  rintro e w2 ⟨v, rfl, hv⟩
  have HV : Hid (R v w2) := hv
  clear hv
  dsimp only
  go_wp2_with fail
  refine HK.out _ _ ?_
  exact HX.out _ _ HV.out _ _ _ _ _ _ _ _ _ _ _ _ _ _ _ _ _ _ _ _ _ _ _ _ _ _ _ _ _ _ _ _ _ _ _ _ _ _ _ _ _ _ _ _ _ _ _ _ _ _ _ _ _ _ _ _ _ _ _ _ _ _ _ _ _ _ _ _ _ _ _ _ _ _ _ _ _ _ _ _ _ _ _ _ _ _ _ _ _ _ _ _ _ _ _ _ _ _ _ _ _ _ _ _ _ _ _ _ _ _ _ _ _ _ _ _ _ _ _ _ _ _ _ _ _ _ _ _ _ _ _ _ _ _ _ _ _ _ _ _ _ _ _ _ _ _ _ _ _ _ _ _ _ _ _ _ _ _ _ _ _ _ _ _ _ _ _ _ _ _ _ _ _ _ _ _ _ _ _ _ _ _ _ _ _ _ _ _ _ _ _ _ _ _ _ _ _ _ _ _ _ _ _ _ _ _ _ _ _ _ _ _ _ _ _ _ _ _ _ _ _ _ _ _ _ _ _ _ _ _ _ _ _ _ _ _ _ _ _ _ _ _ _ _ _ _ _ _ _ _ _ _ _ _ _ _ _ _ _ _ _ _ _ _ _ _ _ _ _ _ _ _ _ _ _ _ _ _ _ _ _ _ _ _ _ _ _ _ _ _ _ _ _ _ _ _ _ _ _ _ _ _ _ _ _ _ _ _ _ _ _ _ _ _ _ _ _ _ _ _ _ _ _ _ 
end Go.Proofs.YtdngileimmgdnaaDoor
