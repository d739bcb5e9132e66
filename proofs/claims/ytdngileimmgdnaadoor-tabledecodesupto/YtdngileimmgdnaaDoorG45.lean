/- all rows are their own -/
import Derived.Test.YtdngileimmgdnaaDoorG42
namespace Go.Proofs.YtdngileimmgdnaaDoor
open Go Go.RowKit
attribute [local go_sem ↓] Go.wp_at_zero Go.wp_at_succ

set_option maxRecDepth 20000 in
set_option maxHeartbeats 16000000 in
theorem tail24 {Q : Exit → Act → World → Prop} {w3 u : World} {ns : List (Value × List Value)} {lv : Value} {ws : List (Value × List Nat)} {rows : List (Value × List Int)} {mine : Rw} {sa : Option Addr} {wv : Value}
    (H : Hid (Td w3 u (ns) lv ws rows mine (.slice sa 2 2) wv)) (HLN : Hid (Ln 2 ns)) (HO : Hid (On 2 ns u))
    (next : Gd tl25 Q (.slice sa 2 2) lv wv u) : Gd tl24 Q (.slice sa 2 2) lv wv u := by
  unfold Gd
  intro s0 s1 s2 s3 s4 s5 s6 s7 s8 s9 s10 s11 s12 s13 s14 s18 s19 s20 s21 s22 s23 s24 s25 s26 s27 s28 s29 s30 s31 s32 s33 s34 s35 s36 s37 s38 s39 s40 s41 s42 s43 s44 s45 s46 s47 s48 s49 s50 s51 s52 s53 s54 s55 s56 s57 s58 s59 s60 s61 s62 s63 s64 s65 s66 s67 s68 s69 s70 s71 s72 s73 s74 s75 s76 s77 s78 s79 s80 s81 s82 s83 s84 s85 s86 s87 s88 s89 s90 s91 s92 s93 s94 s95 s96 s97 s98 s99 s100 s101 s102 s103 s104 s105 s106 s107 s108 s109 s110 s111 s112 s113 s114 s115 s116 s117 s118 s119 s120 s121 s122 s123 s124 s125 s126 s127 s128 s129 s130 s131 s132 s133 s134 s135 s136 s137 s138 s139 s140 s141 s142 s143 s144 s145 s146 s147 s148 s149 s150 s151 s152 s153 s154 s155 s156 s157 s158 s159 s160 s161 s162 s163 s164 s165 s166 s167 s168 s169 s170 s171 s172 s173 s174 s175 s176 s177 s178 s179 s180 s181 s182 s183 s184 s185 s186 s187 s188 s189 s190 s191 s192 s193 s194 s195 s196 s197 s198 s199 s200 s201 s202 s203 s204 s205 s206 s207 s208 s209 s210 s211 s212 s213 s214 s215 s216 s217 s218 s219 s220 s221 s222 s223 s224 s225 s226 s227 s228 s229 s230 s231 s232 s233 s234 s235 s236 s237 s238 s239 s240 s241 s242 s243 s244 s245 s246 s247 s248 s249 s250 s251 s252 s253 s254 s255 s256 s257 s258 s259 s260 s261 s262 s263 s264 s265 s266 s267 s268 s269 s270 s271 s272 s273 s274 s275 s276 s277 s278 s279 s280 s281 s282 s283 s284 s285 s286 s287 s288 s289 s290 s291 s292 s293 s294 s295 s296 s297 s298 s299 s300 s301 s302 s303 s304 s305 s306 s307 s308 s309 s310 s311 s312 s313 s314 s315 s316 s317 s318 s319 s320 s321 s322 s323 s324 s325 s326 s327 s328 s329 s330 s331 s332 s333
  conv => arg 2; whnf
  apply wp_seq_k
  intro K hK
  have HK : Hid (∀ a w, _ → K a w) := hK
  have HX : Hid _ := next
  clear hK next
  go_wp2_with fail
  go_loop [299] (fun i => ∃ t : Nat, i = .int .i64 (t : Nat) ∧ t ≤ 2) (fun i => 2 - (intOf i).toNat)
  case atStart => exact ⟨0, rfl, by omega⟩
  case round =>
    obtain ⟨t, rfl, ht⟩ := hrel
    by_cases hlt : t < 2
    · have hlt' : (t : Int) < 2 := by omega
      obtain ⟨p, hp⟩ : ∃ p, ns[t]? = some p := ⟨_, List.getElem?_eq_getElem (by rw [H.out.two]; exact hlt)⟩
      obtain ⟨V, r⟩ := p
      obtain ⟨gl, ra, rc, hla, hV, hcell, -, hrc, hrm, hat⟩ := H.out.atN hp
      obtain ⟨L, hL⟩ : ∃ L, r.length = L := ⟨_, rfl⟩
      rw [hL] at hV hrc
      have hL4 : L ≤ 4099 := by rw [← hL]; exact (HLN.out t _ hp).1
      have HAT : Hid (∀ k x, r[k]? = some x → ∃ g, ra = some ⟨g, 0, none⟩ ∧ u.cell? ⟨g, k, none⟩ = some x ∧ u.frozen? ⟨g, k, none⟩ = false) := hat
      have HRO : Hid (∀ x ∈ r, One u x t) := HO.out t _ hlt hp
      have HL : Hid (r.length = L) := hL
      subst hla hV
      clear hp hL hat
      go_wp2
      go_loop [307] (fun i => ∃ k : Nat, i = .int .i64 (k : Nat) ∧ k ≤ L) (fun i => L - (intOf i).toNat)
      case atStart => exact ⟨0, rfl, by omega⟩
      case round =>
        obtain ⟨k, rfl, hk⟩ := hrel
        by_cases hltk : k < L
        · have hltk' : (k : Int) < (L : Int) := by omega
          obtain ⟨x, hx⟩ : ∃ x, r[k]? = some x := ⟨_, List.getElem?_eq_getElem (by rw [HL.out]; exact hltk)⟩
          obtain ⟨g, hg, hc2, -⟩ := HAT.out k x hx
          obtain ⟨h1, ex, hc4, -⟩ := HRO.out x (List.mem_of_getElem? hx)
          subst hg ex
          clear hx
          go_wp2
          go_round
          case rel => exact ⟨k + 1, by go_num, by omega⟩
          case measure => simp [intOf]; omega
        · have hltk' : ¬ (k : Int) < (L : Int) := by omega
          go_wp2
          go_round
          case rel => exact ⟨t + 1, by go_num, by omega⟩
          case measure => simp [intOf]; omega
    · have hlt' : ¬ (t : Int) < 2 := by omega
      go_wp2_with fail
      refine HK.out _ _ ?_
      exact HX.out _ _ _ _ _ _ _ _ _ _ _ _ _ _ _ _ _ _ _ _ _ _ _ _ _ _ _ _ _ _ _ _ _ _ _ _ _ _ _ _ _ _ _ _ _ _ _ _ _ _ _ _ _ _ _ _ _ _ _ _ _ _ _ _ _ _ _ _ _ _ _ _ _ _ _ _ _ _ _ _ _ _ _ _ _ _ _ _ _ _ _ _ _ _ _ _ _ _ _ _ _ _ _ _ _ _ _ _ _ _ _ _ _ _ _ _ _ _ _ _ _ _ _ _ _ _ _ _ _ _ _ _ _ _ _ _ _ _ _ _ _ _ _ _ _ _ _ _ _ _ _ _ _ _ _ _ _ _ _ _ _ _ _ _ _ _ _ _ _ _ _ _ _ _ _ _ _ _ _ _ _ _ _ _ _ _ _ _ _ _ _ _ _ _ _ _ _ _ _ _ _ _ _ _ _ _ _ _ _ _ _ _ _ _ _ _ _ _ _ _ _ _ _ _ _ _ _ _ _ _ _ _ _ _ _ _ _ _ _ _ _ _ _ _ _ _ _ _ _ _ _ _ _ _ _ _ _ _ _ _ _ _ _ _ _ _ _ _ _ _ _ _ _ _ _ _ _ _ _ _ _ _ _ _ _ _ _ _ _ _ _ _ _ _ _ _ _ _ _ _ _ _ _ _ _ _ _ _ _ _ _ _ _ _ _ _ _ _ _ _ _ _ _ _ _ _ _ _ _ _ _ 
end Go.Proofs.YtdngileimmgdnaaDoor
