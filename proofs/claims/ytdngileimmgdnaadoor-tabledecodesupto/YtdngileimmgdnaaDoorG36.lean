/- three words more at each row -/
import Derived.Test.YtdngileimmgdnaaDoorG35
namespace Go.Proofs.YtdngileimmgdnaaDoor
open Go Go.RowKit
attribute [local go_sem ↓] Go.wp_at_zero Go.wp_at_succ

set_option maxRecDepth 20000 in
set_option maxHeartbeats 16000000 in
theorem tail20 {Q : Exit → Act → World → Prop} {w3 u : World} {ns : List (Value × List Value)} {lv : Value} {ws : List (Value × List Nat)} {rows : List (Value × List Int)} {mine : Rw} {sa : Option Addr} {wa : Option Addr}
    (H : Hid (Td w3 u ns lv (ws) rows mine (.slice sa 2 2) (.slice wa 4 4))) (HI : Hid (AfW 0 ws))
    (next : ∀ u2 ws2, Td w3 u2 ns lv (ws2) rows mine (.slice sa 2 2) (.slice wa 4 4) → AfW 4 ws2 → Gd tl21 Q (.slice sa 2 2) lv (.slice wa 4 4) u2) : Gd tl20 Q (.slice sa 2 2) lv (.slice wa 4 4) u := by
  unfold Gd
  intro s0 s1 s2 s3 s4 s5 s6 s7 s8 s9 s10 s11 s12 s13 s14 s18 s19 s20 s21 s22 s23 s24 s25 s26 s27 s28 s29 s30 s31 s32 s33 s34 s35 s36 s37 s38 s39 s40 s41 s42 s43 s44 s45 s46 s47 s48 s49 s50 s51 s52 s53 s54 s55 s56 s57 s58 s59 s60 s61 s62 s63 s64 s65 s66 s67 s68 s69 s70 s71 s72 s73 s74 s75 s76 s77 s78 s79 s80 s81 s82 s83 s84 s85 s86 s87 s88 s89 s90 s91 s92 s93 s94 s95 s96 s97 s98 s99 s100 s101 s102 s103 s104 s105 s106 s107 s108 s109 s110 s111 s112 s113 s114 s115 s116 s117 s118 s119 s120 s121 s122 s123 s124 s125 s126 s127 s128 s129 s130 s131 s132 s133 s134 s135 s136 s137 s138 s139 s140 s141 s142 s143 s144 s145 s146 s147 s148 s149 s150 s151 s152 s153 s154 s155 s156 s157 s158 s159 s160 s161 s162 s163 s164 s165 s166 s167 s168 s169 s170 s171 s172 s173 s174 s175 s176 s177 s178 s179 s180 s181 s182 s183 s184 s185 s186 s187 s188 s189 s190 s191 s192 s193 s194 s195 s196 s197 s198 s199 s200 s201 s202 s203 s204 s205 s206 s207 s208 s209 s210 s211 s212 s213 s214 s215 s216 s217 s218 s219 s220 s221 s222 s223 s224 s225 s226 s227 s228 s229 s230 s231 s232 s233 s234 s235 s236 s237 s238 s239 s240 s241 s242 s243 s244 s245 s246 s247 s248 s249 s250 s251 s252 s253 s254 s255 s256 s257 s258 s259 s260 s261 s262 s263 s264 s265 s266 s267 s268 s269 s270 s271 s272 s273 s274 s275 s276 s277 s278 s279 s280 s281 s282 s283 s284 s285 s286 s287 s288 s289 s290 s291 s292 s293 s294 s295 s296 s297 s298 s299 s300 s301 s302 s303 s304 s305 s306 s307 s308 s309 s310 s311 s312 s313 s314 s315 s316 s317 s318 s319 s320 s321 s322 s323 s324 s325 s326 s327 s328 s329 s330 s331 s332 s333
  conv => arg 2; whnf
  apply wp_seq_k
  intro K hK
  have HK : Hid (∀ a w, _ → K a w) := hK
  have HX : Hid _ := next
  clear hK next
  go_wp2_with fail
  go_loopw [231] (fun i u2 => ∃ (t : Nat) (rw2 : List (Value × List Nat)), i = .int .i64 (t : Nat) ∧ t ≤ 4 ∧ Hid (AfW t rw2) ∧ Hid (Td w3 u2 ns lv (rw2) rows mine (.slice sa 2 2) (.slice wa 4 4))) (fun i _ => 4 - (intOf i).toNat)
  case atStart => exact ⟨0, ws, rfl, by omega, HI, H⟩
  case round =>
    obtain ⟨t, rw2, rfl, ht, HIR, HTR⟩ := hrel
    clear H HI
    by_cases hlt : t < 4
    · have hlt' : (t : Int) < 4 := by omega
      obtain ⟨p, hp⟩ : ∃ p, rw2[t]? = some p := ⟨_, List.getElem?_eq_getElem (by rw [HIR.out.sh.n]; exact hlt)⟩
      obtain ⟨V, r⟩ := p
      have HP : Hid (rw2[t]? = some (V, r)) := hp
      have HLO : Hid (r.length ≤ 4096 ∧ ∀ z ∈ r, z = 1000 + t) := ⟨HIR.out.lo t _ (Nat.le_refl _) hp, HIR.out.sh.m t _ hlt hp⟩
      clear hp
      obtain ⟨m, hm⟩ : ∃ m, 1000 + t = m := ⟨_, rfl⟩
      have HM : Hid (1000 + t = m) := hm
      have hmi : (1000 : Int) + (t : Int) = (m : Int) := by omega
      have hmm : (m : Int) % 4294967296 = (m : Int) := by omega
      clear hm
      go_wp2
      go_loopw [234] (fun i u2 => ∃ (k : Nat) (V2 : Value) (r2 : List Nat), i = .int .i64 (k : Nat) ∧ k ≤ 3 ∧ Hid (r2.length ≤ 4096 + k ∧ ∀ z ∈ r2, z = 1000 + t) ∧ Hid (Td w3 u2 ns lv (rw2.set t (V2, r2)) rows mine (.slice sa 2 2) (.slice wa 4 4))) (fun i _ => 3 - (intOf i).toNat)
      case atStart => exact ⟨0, V, r, rfl, by omega, HLO, by rw [set_same HP.out]; exact HTR⟩
      case round =>
        obtain ⟨k, V2, r2, rfl, hk, HF, HTK⟩ := hrel
        clear HTR
        by_cases hltk : k < 3
        · have hltk' : (k : Int) < 3 := by omega
          have HPK : Hid ((rw2.set t (V2, r2))[t]? = some (V2, r2)) := by
            show _ = _
            rw [List.getElem?_set_self (by rw [HIR.out.sh.n]; exact hlt)]
          obtain ⟨gl, ra, rc, hla, hV, hcell, -, -, -, -⟩ := HTK.out.atW HPK.out
          subst hla hV
          have HAL : Hid (∀ ob : Obj, Below wr.heap.size wr (wr.alloc ob)) := fun ob => (Below.refl _ _).alloc (Nat.le_refl _) _
          have HSZ : Hid (∀ ob : Obj, w3.heap.size ≤ (wr.alloc ob).heap.size) := fun ob => Nat.le_trans HTK.out.low.size (HAL.out ob).size
          go_wp2_with (at_builtin; refine wpList_append_famg rfl (.tmp 241) (.tmp 245) rfl (.int .u32 0) 4 Tryd.underlying24 infU rfl w3.heap.size _ ((HTK.out.later (HAL.out _)).fam) (HSZ.out _) (4 * t + 1) _ (u32s r2) (HTK.out.fdW HPK.out) rfl _ [.int .u32 (m : Nat)] rfl (lat_lit _ _ _ _) (fun y hy => by simp at hy; subst hy; rfl) (by rw [u32s_len]; have := HF.out.1; simp; omega) (by decide) ?_; intro V3 w5 hf5 hg5 hn5; rw [u32s_snoc] at hf5; obtain ⟨⟨a5, n5, c5, e5⟩, hq1, hq2, hq3⟩ := appW_done (HTK.out.later (HAL.out _)) HPK.out hf5 hg5; subst e5; rw [List.set_set] at hq3; have HQ : Hid (Td w3 (w5.setCell ⟨gl, t, none⟩ (.slice a5 n5 c5)) ns lv (rw2.set t (.slice a5 n5 c5, r2 ++ [m])) rows mine (.slice sa 2 2) (.slice (some ⟨gl, 0, none⟩) 4 4)) := hq3; clear hf5 hg5 hn5 hq3)
          go_roundw
          case rel => exact ⟨k + 1, .slice a5 n5 c5, r2 ++ [m], by go_num, by omega, ⟨by have := HF.out.1; simp; omega, fun z hz => by
            rcases List.mem_append.1 hz with h | h
            · exact HF.out.2 z h
            · simp at h; exact h.trans HM.out.symm⟩, HQ⟩
          case measure => simp [intOf]; omega
        · have hltk' : ¬ (k : Int) < 3 := by omega
          have HLR : Hid (r2.length ≤ 4099) := by have := HF.out.1; show _ ≤ _; omega
          go_wp2
          go_roundw
          case rel => exact ⟨t + 1, rw2.set t (V2, r2), by go_num, by omega, HIR.out.step HF.out.2 HLR.out hlt, HTK⟩
          case measure => simp [intOf]; omega
    · have hlt' : ¬ (t : Int) < 4 := by omega
      have htn : t = 4 := by omega
      subst htn
      go_wp2_with fail
      refine HK.out _ _ ?_
      exact HX.out _ _ HTR.out HIR.out _ _ _ _ _ _ _ _ _ _ _ _ _ _ _ _ _ _ _ _ _ _ _ _ _ _ _ _ _ _ _ _ _ _ _ _ _ _ _ _ _ _ _ _ _ _ _ _ _ _ _ _ _ _ _ _ _ _ _ _ _ _ _ _ _ _ _ _ _ _ _ _ _ _ _ _ _ _ _ _ _ _ _ _ _ _ _ _ _ _ _ _ _ _ _ _ _ _ _ _ _ _ _ _ _ _ _ _ _ _ _ _ _ _ _ _ _ _ _ _ _ _ _ _ _ _ _ _ _ _ _ _ _ _ _ _ _ _ _ _ _ _ _ _ _ _ _ _ _ _ _ _ _ _ _ _ _ _ _ _ _ _ _ _ _ _ _ _ _ _ _ _ _ _ _ _ _ _ _ _ _ _ _ _ _ _ _ _ _ _ _ _ _ _ _ _ _ _ _ _ _ _ _ _ _ _ _ _ _ _ _ _ _ _ _ _ _ _ _ _ _ _ _ _ _ _ _ _ _ _ _ _ _ _ _ _ _ _ _ _ _ _ _ _ _ _ _ _ _ _ _ _ _ _ _ _ _ _ _ _ _ _ _ _ _ _ _ _ _ _ _ _ _ _ _ _ _ _ _ _ _ _ _ _ _ _ _ _ _ _ _ _ _ _ _ _ _ _ _ _ _ _ _ _ _ _ _ _ _ _ _ _ _ _ _ _ _ _ _ _ _ _ _ _ _ _ _ _ _ _ _ 
end Go.Proofs.YtdngileimmgdnaaDoor

/- all rows bear their marks -/
namespace Go.Proofs.YtdngileimmgdnaaDoor
open Go Go.RowKit
attribute [local go_sem ↓] Go.wp_at_zero Go.wp_at_succ

set_option maxRecDepth 20000 in
set_option maxHeartbeats 16000000 in
theorem tail21 {Q : Exit → Act → World → Prop} {w3 u : World} {ns : List (Value × List Value)} {lv : Value} {N : Nat} {ws : List (Value × List Nat)} {rows : List (Value × List Int)} {mine : Rw} {rsv wv : Value}
    (H : Hid (Td w3 u ns lv ws rows mine rsv wv)) (HI : Hid (ShI N 4099 N rows)) (HW : Hid (ShW 4099 4 ws)) (hN : N ≤ 8192)
    (next : Gd tl22 Q rsv lv wv u) : Gd tl21 Q rsv lv wv u := by
  have HO : Hid (Calls Tryd.prog 21 #[lv, wv] u fun e w2 => e = .returned (.bool true) ∧ w2 = u) := own_td H.out HI.out HW.out (by decide) hN
  unfold Gd
  intro s0 s1 s2 s3 s4 s5 s6 s7 s8 s9 s10 s11 s12 s13 s14 s18 s19 s20 s21 s22 s23 s24 s25 s26 s27 s28 s29 s30 s31 s32 s33 s34 s35 s36 s37 s38 s39 s40 s41 s42 s43 s44 s45 s46 s47 s48 s49 s50 s51 s52 s53 s54 s55 s56 s57 s58 s59 s60 s61 s62 s63 s64 s65 s66 s67 s68 s69 s70 s71 s72 s73 s74 s75 s76 s77 s78 s79 s80 s81 s82 s83 s84 s85 s86 s87 s88 s89 s90 s91 s92 s93 s94 s95 s96 s97 s98 s99 s100 s101 s102 s103 s104 s105 s106 s107 s108 s109 s110 s111 s112 s113 s114 s115 s116 s117 s118 s119 s120 s121 s122 s123 s124 s125 s126 s127 s128 s129 s130 s131 s132 s133 s134 s135 s136 s137 s138 s139 s140 s141 s142 s143 s144 s145 s146 s147 s148 s149 s150 s151 s152 s153 s154 s155 s156 s157 s158 s159 s160 s161 s162 s163 s164 s165 s166 s167 s168 s169 s170 s171 s172 s173 s174 s175 s176 s177 s178 s179 s180 s181 s182 s183 s184 s185 s186 s187 s188 s189 s190 s191 s192 s193 s194 s195 s196 s197 s198 s199 s200 s201 s202 s203 s204 s205 s206 s207 s208 s209 s210 s211 s212 s213 s214 s215 s216 s217 s218 s219 s220 s221 s222 s223 s224 s225 s226 s227 s228 s229 s230 s231 s232 s233 s234 s235 s236 s237 s238 s239 s240 s241 s242 s243 s244 s245 s246 s247 s248 s249 s250 s251 s252 s253 s254 s255 s256 s257 s258 s259 s260 s261 s262 s263 s264 s265 s266 s267 s268 s269 s270 s271 s272 s273 s274 s275 s276 s277 s278 s279 s280 s281 s282 s283 s284 s285 s286 s287 s288 s289 s290 s291 s292 s293 s294 s295 s296 s297 s298 s299 s300 s301 s302 s303 s304 s305 s306 s307 s308 s309 s310 s311 s312 s313 s314 s315 s316 s317 s318 s319 s320 s321 s322 s323 s324 s325 s326 s327 s328 s329 s330 s331 s332 s333
  conv => arg 2; whnf
  apply wp_seq_k
  intro K hK
  have HK : Hid (∀ a w, _ → K a w) := hK
  have HX : Hid _ := next
  clear hK next
  go_wp2_with fail
  refine HO.out.mono ?_
  rintro e w2 ⟨rfl, hw⟩
  have HE : Hid (w2 = u) := hw
  clear hw
  dsimp only
  go_wp2_with fail
  refine HK.out _ _ ?_
  rw [HE.out]
  exact HX.out _ _ _ _ _ _ _ _ _ _ _ _ _ _ _ _ _ _ _ _ _ _ _ _ _ _ _ _ _ _ _ _ _ _ _ _ _ _ _ _ _ _ _ _ _ _ _ _ _ _ _ _ _ _ _ _ _ _ _ _ _ _ _ _ _ _ _ _ _ _ _ _ _ _ _ _ _ _ _ _ _ _ _ _ _ _ _ _ _ _ _ _ _ _ _ _ _ _ _ _ _ _ _ _ _ _ _ _ _ _ _ _ _ _ _ _ _ _ _ _ _ _ _ _ _ _ _ _ _ _ _ _ _ _ _ _ _ _ _ _ _ _ _ _ _ _ _ _ _ _ _ _ _ _ _ _ _ _ _ _ _ _ _ _ _ _ _ _ _ _ _ _ _ _ _ _ _ _ _ _ _ _ _ _ _ _ _ _ _ _ _ _ _ _ _ _ _ _ _ _ _ _ _ _ _ _ _ _ _ _ _ _ _ _ _ _ _ _ _ _ _ _ _ _ _ _ _ _ _ _ _ _ _ _ _ _ _ _ _ _ _ _ _ _ _ _ _ _ _ _ _ _ _ _ _ _ _ _ _ _ _ _ _ _ _ _ _ _ _ _ _ _ _ _ _ _ _ _ _ _ _ _ _ _ _ _ _ _ _ _ _ _ _ _ _ _ _ _ _ _ _ _ _ _ _ _ _ _ _ _ _ _ _ _ _ _ _ _ _ _ _ _ _ _ _ _ _ _ _ _ _ 
end Go.Proofs.YtdngileimmgdnaaDoor

/- TableDecodes: the lists of rows, each row a number of its own. -/
namespace Go.Proofs.YtdngileimmgdnaaDoor
open Go Go.RowKit

/-- the rows of the first t lists are theirs -/
def On (t : Nat) (ns : List (Value × List Value)) (u : World) : Prop := ∀ (s : Nat) (p : Value × List Value), s < t → ns[s]? = some p → ∀ x ∈ p.2, One u x s
/-- the first k rows of a list are t's -/
def Om (t k L : Nat) (r : List Value) (u : World) : Prop := r.length = L ∧ ∀ (j : Nat) (x : Value), j < k → r[j]? = some x → One u x t
theorem On.map {t : Nat} {ns : List (Value × List Value)} {u v : World} (h : On t ns u) (f : ∀ x s, One u x s → One v x s) : On t ns v := fun s p hs hp x hx => f x s (h s p hs hp x hx)
theorem Om.map {t k L : Nat} {r : List Value} {u v : World} (h : Om t k L r u) (f : ∀ x s, One u x s → One v x s) : Om t k L r v := ⟨h.1, fun j x hj hx => f x t (h.2 j x hj hx)⟩
theorem Om.step {t k L : Nat} {r : List Value} {u : World} (h : Om t k L r u) (hk : k < L) {y : Value} (hy : One u y t) : Om t (k + 1) L (r.set k y) u := by
  refine ⟨by rw [List.length_set]; exact h.1, fun j x hj hx => ?_⟩
  by_cases e : j = k
  · subst e
    rw [List.getElem?_set_self (by rw [h.1]; exact hk)] at hx
    cases hx
    exact hy
  · rw [List.getElem?_set_ne (by omega)] at hx
    exact h.2 j x (by omega) hx
theorem On.step {t : Nat} {ns : List (Value × List Value)} {u : World} (h : On t ns u) {V : Value} {r : List Value} (hr : ∀ x ∈ r, One u x t) (ht : t < ns.length) : On (t + 1) (ns.set t (V, r)) u := fun s p hs hp => by
  by_cases e : s = t
  · subst e
    rw [List.getElem?_set_self ht] at hp
    cases hp
    exact hr
  · rw [List.getElem?_set_ne (by omega)] at hp
    exact h s p (by omega) hp
theorem Om.all {t L : Nat} {r : List Value} {u : World} (h : Om t L L r u) : ∀ x ∈ r, One u x t := fun x hx => by
  obtain ⟨j, hj, e⟩ := List.mem_iff_getElem.1 hx
  exact h.2 j x (by rw [← h.1]; exact hj) (by rw [List.getElem?_eq_getElem hj, e])
/-- lengths: the lists from t on are short -/
def Ln (t : Nat) (ns : List (Value × List Value)) : Prop := ∀ (s : Nat) (p : Value × List Value), ns[s]? = some p → p.2.length ≤ 4099 ∧ (t ≤ s → p.2.length ≤ 4096)
theorem Ln.step {t : Nat} {ns : List (Value × List Value)} (h : Ln t ns) {V : Value} {r : List Value} (hl : r.length ≤ 4099) (ht : t < ns.length) : Ln (t + 1) (ns.set t (V, r)) := fun s p hp => by
  by_cases e : s = t
  · subst e
    rw [List.getElem?_set_self ht] at hp
    cases hp
    exact ⟨hl, fun h => by omega⟩
  · rw [List.getElem?_set_ne (by omega)] at hp
    exact ⟨(h s p hp).1, fun hs => (h s p hp).2 (by omega)⟩
theorem Ln.same {t : Nat} {ns : List (Value × List Value)} (h : Ln 0 ns) {V V' : Value} {r r' : List Value} (hp : ns[t]? = some (V, r)) (hl : r'.length = r.length) : Ln 0 (ns.set t (V', r')) := fun s p hs => by
  by_cases e : s = t
  · subst e
    rw [List.getElem?_set_self (List.getElem?_eq_some_iff.1 hp).1] at hs
    cases hs
    have := h s _ hp
    simp only [hl]
    exact this
  · rw [List.getElem?_set_ne (by omega)] at hs
    exact h s p hs
section
variable {w3 u v : World} {ns : List (Value × List Value)} {lv : Value} {ws : List (Value × List Nat)} {rows : List (Value × List Int)} {mine : Rw} {rsv wv : Value}
/-- rows[t][k] = []int{t} -/
theorem putN_one {t g L c k : Nat} {xs : List Value} (h : Td w3 u ns lv ws rows mine rsv wv) (hp : ns[t]? = some (.slice (some ⟨g, 0, none⟩) L c, xs)) (i : Nat) : (∀ x s, One u x s → One ((u.alloc (.cells #[.int .i64 (i : Nat)] 3)).setCell ⟨g, k, none⟩ (.slice (some ⟨u.heap.size, 0, none⟩) 1 1)) x s) ∧ One ((u.alloc (.cells #[.int .i64 (i : Nat)] 3)).setCell ⟨g, k, none⟩ (.slice (some ⟨u.heap.size, 0, none⟩) 1 1)) (.slice (some ⟨u.heap.size, 0, none⟩) 1 1) i ∧ Td w3 ((u.alloc (.cells #[.int .i64 (i : Nat)] 3)).setCell ⟨g, k, none⟩ (.slice (some ⟨u.heap.size, 0, none⟩) 1 1)) (ns.set t (.slice (some ⟨g, 0, none⟩) L c, xs.set k (.slice (some ⟨u.heap.size, 0, none⟩) 1 1))) lv ws rows mine rsv wv := by
  have k1 : Below u.heap.size u (u.alloc (.cells #[.int .i64 (i : Nat)] 3)) := (Below.refl _ _).alloc (Nat.le_refl _) _
  have h2 := h.later k1
  have ty := (own_at (h2.ownN hp) g rfl).2.2
  exact ⟨fun x s hx => (hx.later k1).set ty (by decide) _, (one_fresh u rfl i).set ty (by decide) _, h2.putN hp k _⟩
theorem Td.cellN (h : Td w3 u ns lv ws rows mine rsv wv) {t g L c : Nat} {xs : List Value} (hp : ns[t]? = some (.slice (some ⟨g, 0, none⟩) L c, xs)) {k : Nat} {x : Value} (hx : xs[k]? = some x) : u.cell? ⟨g, k, none⟩ = some x ∧ u.frozen? ⟨g, k, none⟩ = false := by
  obtain ⟨_, g', eg, _, _, hc, hf⟩ := row_cell (h.ownN hp) hx
  cases eg
  exact ⟨hc, hf⟩
/-- rows[t] = append(rows[t], []int{t}) -/
theorem appN_one {gs N c t : Nat} {V V' : Value} {r : List Value} (h : Td w3 u ns lv ws rows mine (.slice (some ⟨gs, 0, none⟩) N c) wv) (hp : ns[t]? = some (V, r)) (hg : u.grownBy v V.ownBlock) (hs : TyB v 23 gs) : ∀ x s, One u x s → One (v.setCell ⟨gs, t, none⟩ V') x s := fun x s hx =>
  (hx.grown hg (fun k hk => (own_at (h.ownN hp) k hk).2.2) (by decide)).set hs (by decide) _
theorem on_app {gs N c t : Nat} {ns2 : List (Value × List Value)} {V2 V3 : Value} {r2 : List Value} {wr : World} {o2 : Obj} (ho : On 2 (ns2.set t (V2, r2)) wr) (ht : t < ns2.length) (h : Td w3 ((wr.alloc (.cells #[.int .i64 (t : Nat)] 3)).alloc o2) (ns2.set t (V2, r2)) lv ws rows mine (.slice (some ⟨gs, 0, none⟩) N c) wv) (hg : ((wr.alloc (.cells #[.int .i64 (t : Nat)] 3)).alloc o2).grownBy v V2.ownBlock) (hs : TyB v 23 gs) : On 2 (ns2.set t (V3, r2 ++ [.slice (some ⟨wr.heap.size, 0, none⟩) 1 1])) (v.setCell ⟨gs, t, none⟩ V3) := by
  have k1 : Below wr.heap.size wr (wr.alloc (.cells #[.int .i64 (t : Nat)] 3)) := (Below.refl _ _).alloc (Nat.le_refl _) _
  have k2 : Below (wr.alloc (.cells #[.int .i64 (t : Nat)] 3)).heap.size (wr.alloc (.cells #[.int .i64 (t : Nat)] 3)) ((wr.alloc (.cells #[.int .i64 (t : Nat)] 3)).alloc o2) := (Below.refl _ _).alloc (Nat.le_refl _) _
  have hp : (ns2.set t (V2, r2))[t]? = some (V2, r2) := List.getElem?_set_self ht
  have f := appN_one (t := t) (V' := V3) h hp hg hs
  intro s p hs2 hps x hx
  by_cases e : s = t
  · subst e
    rw [List.getElem?_set_self ht] at hps
    cases hps
    rcases List.mem_append.1 hx with h' | h'
    · exact f x s (((ho s _ hs2 hp x h').later k1).later k2)
    · simp only [List.mem_singleton] at h'
      subst h'
      exact f _ s ((one_fresh wr rfl s).later k2)
  · rw [List.getElem?_set_ne (by omega)] at hps
    exact f x s (((ho s p hs2 (by rw [List.getElem?_set_ne (by omega)]; exact hps) x hx).later k1).later k2)
end
end Go.Proofs.YtdngileimmgdnaaDoor

/- rows of their own -/
namespace Go.Proofs.YtdngileimmgdnaaDoor
open Go Go.RowKit
attribute [local go_sem ↓] Go.wp_at_zero Go.wp_at_succ

set_option maxRecDepth 20000 in
set_option maxHeartbeats 16000000 in
theorem tail22 {Q : Exit → Act → World → Prop} {w3 u : World} {ns : List (Value × List Value)} {lv : Value} {ws : List (Value × List Nat)} {rows : List (Value × List Int)} {mine : Rw} {sa : Option Addr} {wv : Value}
    (H : Hid (Td w3 u (ns) lv ws rows mine (.slice sa 2 2) wv)) (HLN : Hid (Ln 0 ns))
    (next : ∀ u2 ns2, Td w3 u2 (ns2) lv ws rows mine (.slice sa 2 2) wv → Ln 0 ns2 → On 2 ns2 u2 → Gd tl23 Q (.slice sa 2 2) lv wv u2) : Gd tl22 Q (.slice sa 2 2) lv wv u := by
  unfold Gd
  intro s0 s1 s2 s3 s4 s5 s6 s7 s8 s9 s10 s11 s12 s13 s14 s18 s19 s20 s21 s22 s23 s24 s25 s26 s27 s28 s29 s30 s31 s32 s33 s34 s35 s36 s37 s38 s39 s40 s41 s42 s43 s44 s45 s46 s47 s48 s49 s50 s51 s52 s53 s54 s55 s56 s57 s58 s59 s60 s61 s62 s63 s64 s65 s66 s67 s68 s69 s70 s71 s72 s73 s74 s75 s76 s77 s78 s79 s80 s81 s82 s83 s84 s85 s86 s87 s88 s89 s90 s91 s92 s93 s94 s95 s96 s97 s98 s99 s100 s101 s102 s103 s104 s105 s106 s107 s108 s109 s110 s111 s112 s113 s114 s115 s116 s117 s118 s119 s120 s121 s122 s123 s124 s125 s126 s127 s128 s129 s130 s131 s132 s133 s134 s135 s136 s137 s138 s139 s140 s141 s142 s143 s144 s145 s146 s147 s148 s149 s150 s151 s152 s153 s154 s155 s156 s157 s158 s159 s160 s161 s162 s163 s164 s165 s166 s167 s168 s169 s170 s171 s172 s173 s174 s175 s176 s177 s178 s179 s180 s181 s182 s183 s184 s185 s186 s187 s188 s189 s190 s191 s192 s193 s194 s195 s196 s197 s198 s199 s200 s201 s202 s203 s204 s205 s206 s207 s208 s209 s210 s211 s212 s213 s214 s215 s216 s217 s218 s219 s220 s221 s222 s223 s224 s225 s226 s227 s228 s229 s230 s231 s232 s233 s234 s235 s236 s237 s238 s239 s240 s241 s242 s243 s244 s245 s246 s247 s248 s249 s250 s251 s252 s253 s254 s255 s256 s257 s258 s259 s260 s261 s262 s263 s264 s265 s266 s267 s268 s269 s270 s271 s272 s273 s274 s275 s276 s277 s278 s279 s280 s281 s282 s283 s284 s285 s286 s287 s288 s289 s290 s291 s292 s293 s294 s295 s296 s297 s298 s299 s300 s301 s302 s303 s304 s305 s306 s307 s308 s309 s310 s311 s312 s313 s314 s315 s316 s317 s318 s319 s320 s321 s322 s323 s324 s325 s326 s327 s328 s329 s330 s331 s332 s333
  conv => arg 2; whnf
  apply wp_seq_k
  intro K hK
  have HK : Hid (∀ a w, _ → K a w) := hK
  have HX : Hid _ := next
  clear hK next
  go_wp2_with fail
  go_loopw [256] (fun i u2 => ∃ (t : Nat) (ns2 : List (Value × List Value)), i = .int .i64 (t : Nat) ∧ t ≤ 2 ∧ Hid (Ln 0 ns2) ∧ Hid (On t ns2 u2) ∧ Hid (Td w3 u2 (ns2) lv ws rows mine (.slice sa 2 2) wv)) (fun i _ => 2 - (intOf i).toNat)
  case atStart => exact ⟨0, ns, rfl, by omega, HLN, fun s p hs => by omega, H⟩
  case round =>
    obtain ⟨t, ns2, rfl, ht, HLR, HON, HTR⟩ := hrel
    clear H HLN
    by_cases hlt : t < 2
    · have hlt' : (t : Int) < 2 := by omega
      have HTL : Hid (t < ns2.length) := by show _ < _; rw [HTR.out.two]; exact hlt
      obtain ⟨p, hp⟩ : ∃ p, ns2[t]? = some p := ⟨_, List.getElem?_eq_getElem HTL.out⟩
      obtain ⟨V, r⟩ := p
      obtain ⟨gl, ra, rc, hla, hV, hcell, -, hrc, hrm, -⟩ := HTR.out.atN hp
      obtain ⟨L, hL⟩ : ∃ L, r.length = L := ⟨_, rfl⟩
      rw [hL] at hV hrc
      have hL4 : L ≤ 4099 := by rw [← hL]; exact (HLR.out t _ hp).1
      have HP : Hid (ns2[t]? = some (V, r)) := hp
      have HL : Hid (r.length = L) := hL
      subst hla hV
      clear hp hL
      go_wp2
      go_loopw [264] (fun i u2 => ∃ (k : Nat) (r2 : List Value), i = .int .i64 (k : Nat) ∧ k ≤ L ∧ Hid (On t ns2 u2) ∧ Hid (Om t k L r2 u2) ∧ Hid (Td w3 u2 (ns2.set t (.slice ra L rc, r2)) lv ws rows mine (.slice (some ⟨gl, 0, none⟩) 2 2) wv)) (fun i _ => L - (intOf i).toNat)
      case atStart => exact ⟨0, r, rfl, by omega, HON, ⟨HL.out, fun j x hj => by omega⟩, by rw [set_same HP.out]; exact HTR⟩
      case round =>
        obtain ⟨k, r2, rfl, hk, HOK, HF, HTK⟩ := hrel
        clear HTR HON hcell
        have HPK : Hid ((ns2.set t (.slice ra L rc, r2))[t]? = some (.slice ra L rc, r2)) := by
          show _ = _
          rw [List.getElem?_set_self HTL.out]
        obtain ⟨gl', ra', rc', hla, hV, hcell, -, -, -, hat⟩ := HTK.out.atN HPK.out
        cases hla
        have e1 := (Value.slice.inj hV).1
        subst e1
        clear hV
        by_cases hltk : k < L
        · have hltk' : (k : Int) < (L : Int) := by omega
          obtain ⟨x, hx⟩ : ∃ x, r2[k]? = some x := ⟨_, List.getElem?_eq_getElem (by rw [HF.out.1]; exact hltk)⟩
          obtain ⟨g, hg, -, -⟩ := hat k x hx
          subst hg
          clear hat
          have HAL : Hid (∀ ob : Obj, Below wr.heap.size wr (wr.alloc ob)) := fun ob => (Below.refl _ _).alloc (Nat.le_refl _) _
          have hc3 : ∀ ob : Obj, (wr.alloc ob).cell? ⟨g, k, none⟩ = some x := fun ob => ((HTK.out.later (HAL.out ob)).cellN HPK.out hx).1
          have hf3 : ∀ ob : Obj, (wr.alloc ob).frozen? ⟨g, k, none⟩ = false := fun ob => ((HTK.out.later (HAL.out ob)).cellN HPK.out hx).2
          clear hx
          go_wp2
          go_roundw
          case rel =>
            obtain ⟨q1, q2, q3⟩ := putN_one (k := k) HTK.out HPK.out t
            rw [List.set_set] at q3
            exact ⟨k + 1, _, by go_num, by omega, HOK.out.map q1, (HF.out.map q1).step hltk q2, q3⟩
          case measure => simp [intOf]; omega
        · have hltk' : ¬ (k : Int) < (L : Int) := by omega
          have hkl : k = L := by omega
          have HFA : Hid (∀ x ∈ r2, One wr x t) := by
            have h := HF.out
            rw [hkl] at h
            exact h.all
          have HLE : Hid (r2.length = r.length) := HF.out.1.trans HL.out.symm
          clear hat hkl
          go_wp2
          go_roundw
          case rel => exact ⟨t + 1, ns2.set t (.slice ra L rc, r2), by go_num, by omega, HLR.out.same HP.out HLE.out, HOK.out.step HFA.out HTL.out, HTK⟩
          case measure => simp [intOf]; omega
    · have hlt' : ¬ (t : Int) < 2 := by omega
      have htn : t = 2 := by omega
      subst htn
      go_wp2_with fail
      refine HK.out _ _ ?_
      exact HX.out _ _ HTR.out HLR.out HON.out _ _ _ _ _ _ _ _ _ _ _ _ _ _ _ _ _ _ _ _ _ _ _ _ _ _ _ _ _ _ _ _ _ _ _ _ _ _ _ _ _ _ _ _ _ _ _ _ _ _ _ _ _ _ _ _ _ _ _ _ _ _ _ _ _ _ _ _ _ _ _ _ _ _ _ _ _ _ _ _ _ _ _ _ _ _ _ _ _ _ _ _ _ _ _ _ _ _ _ _ _ _ _ _ _ _ _ _ _ _ _ _ _ _ _ _ _ _ _ _ _ _ _ _ _ _ _ _ _ _ _ _ _ _ _ _ _ _ _ _ _ _ _ _ _ _ _ _ _ _ _ _ _ _ _ _ _ _ _ _ _ _ _ _ _ _ _ _ _ _ _ _ _ _ _ _ _ _ _ _ _ _ _ _ _ _ _ _ _ _ _ _ _ _ _ _ _ _ _ _ _ _ _ _ _ _ _ _ _ _ _ _ _ _ _ _ _ _ _ _ _ _ _ _ _ _ _ _ _ _ _ _ _ _ _ _ _ _ _ _ _ _ _ _ _ _ _ _ _ _ _ _ _ _ _ _ _ _ _ _ _ _ _ _ _ _ _ _ _ _ _ _ _ _ _ _ _ _ _ _ _ _ _ _ _ _ _ _ _ _ _ _ _ _ _ _ _ _ _ _ _ _ _ _ _ _ _ _ _ _ _ _ _ _ _ _ _ _ _ _ _ _ _ _ _ _ _ _ _ _ _ 
end Go.Proofs.YtdngileimmgdnaaDoor

/- three rows more -/
namespace Go.Proofs.YtdngileimmgdnaaDoor
open Go Go.RowKit
attribute [local go_sem ↓] Go.wp_at_zero Go.wp_at_succ

set_option maxRecDepth 20000 in
set_option maxHeartbeats 16000000 in
theorem tail23 {Q : Exit → Act → World → Prop} {w3 u : World} {ns : List (Value × List Value)} {lv : Value} {ws : List (Value × List Nat)} {rows : List (Value × List Int)} {mine : Rw} {sa : Option Addr} {wv : Value}
    (H : Hid (Td w3 u (ns) lv ws rows mine (.slice sa 2 2) wv)) (HLN : Hid (Ln 0 ns)) (HO : Hid (On 2 ns u))
    (next : ∀ u2 ns2, Td w3 u2 (ns2) lv ws rows mine (.slice sa 2 2) wv → Ln 2 ns2 → On 2 ns2 u2 → Gd tl24 Q (.slice sa 2 2) lv wv u2) : Gd tl23 Q (.slice sa 2 2) lv wv u := by
  unfold Gd
  intro s0 s1 s2 s3 s4 s5 s6 s7 s8 s9 s10 s11 s12 s13 s14 s18 s19 s20 s21 s22 s23 s24 s25 s26 s27 s28 s29 s30 s31 s32 s33 s34 s35 s36 s37 s38 s39 s40 s41 s42 s43 s44 s45 s46 s47 s48 s49 s50 s51 s52 s53 s54 s55 s56 s57 s58 s59 s60 s61 s62 s63 s64 s65 s66 s67 s68 s69 s70 s71 s72 s73 s74 s75 s76 s77 s78 s79 s80 s81 s82 s83 s84 s85 s86 s87 s88 s89 s90 s91 s92 s93 s94 s95 s96 s97 s98 s99 s100 s101 s102 s103 s104 s105 s106 s107 s108 s109 s110 s111 s112 s113 s114 s115 s116 s117 s118 s119 s120 s121 s122 s123 s124 s125 s126 s127 s128 s129 s130 s131 s132 s133 s134 s135 s136 s137 s138 s139 s140 s141 s142 s143 s144 s145 s146 s147 s148 s149 s150 s151 s152 s153 s154 s155 s156 s157 s158 s159 s160 s161 s162 s163 s164 s165 s166 s167 s168 s169 s170 s171 s172 s173 s174 s175 s176 s177 s178 s179 s180 s181 s182 s183 s184 s185 s186 s187 s188 s189 s190 s191 s192 s193 s194 s195 s196 s197 s198 s199 s200 s201 s202 s203 s204 s205 s206 s207 s208 s209 s210 s211 s212 s213 s214 s215 s216 s217 s218 s219 s220 s221 s222 s223 s224 s225 s226 s227 s228 s229 s230 s231 s232 s233 s234 s235 s236 s237 s238 s239 s240 s241 s242 s243 s244 s245 s246 s247 s248 s249 s250 s251 s252 s253 s254 s255 s256 s257 s258 s259 s260 s261 s262 s263 s264 s265 s266 s267 s268 s269 s270 s271 s272 s273 s274 s275 s276 s277 s278 s279 s280 s281 s282 s283 s284 s285 s286 s287 s288 s289 s290 s291 s292 s293 s294 s295 s296 s297 s298 s299 s300 s301 s302 s303 s304 s305 s306 s307 s308 s309 s310 s311 s312 s313 s314 s315 s316 s317 s318 s319 s320 s321 s322 s323 s324 s325 s326 s327 s328 s329 s330 s331 s332 s333
  conv => arg 2; whnf
  apply wp_seq_k
  intro K hK
  have HK : Hid (∀ a w, _ → K a w) := hK
  have HX : Hid _ := next
  clear hK next
  go_wp2_with fail
  go_loopw [279] (fun i u2 => ∃ (t : Nat) (ns2 : List (Value × List Value)), i = .int .i64 (t : Nat) ∧ t ≤ 2 ∧ Hid (Ln t ns2) ∧ Hid (On 2 ns2 u2) ∧ Hid (Td w3 u2 (ns2) lv ws rows mine (.slice sa 2 2) wv)) (fun i _ => 2 - (intOf i).toNat)
  case atStart => exact ⟨0, ns, rfl, by omega, HLN, HO, H⟩
  case round =>
    obtain ⟨t, ns2, rfl, ht, HLR, HON, HTR⟩ := hrel
    clear H HLN HO
    by_cases hlt : t < 2
    · have hlt' : (t : Int) < 2 := by omega
      have HTL : Hid (t < ns2.length) := by show _ < _; rw [HTR.out.two]; exact hlt
      obtain ⟨p, hp⟩ : ∃ p, ns2[t]? = some p := ⟨_, List.getElem?_eq_getElem HTL.out⟩
      obtain ⟨V, r⟩ := p
      have HP : Hid (ns2[t]? = some (V, r)) := hp
      have HLO : Hid (r.length ≤ 4096 + 0) := (HLR.out t _ hp).2 (Nat.le_refl _)
      clear hp
      go_wp2
      go_loopw [282] (fun i u2 => ∃ (k : Nat) (V2 : Value) (r2 : List Value), i = .int .i64 (k : Nat) ∧ k ≤ 3 ∧ Hid (r2.length ≤ 4096 + k) ∧ Hid (On 2 (ns2.set t (V2, r2)) u2) ∧ Hid (Td w3 u2 (ns2.set t (V2, r2)) lv ws rows mine (.slice sa 2 2) wv)) (fun i _ => 3 - (intOf i).toNat)
      case atStart => exact ⟨0, V, r, rfl, by omega, HLO, by rw [set_same HP.out]; exact HON, by rw [set_same HP.out]; exact HTR⟩
      case round =>
        obtain ⟨k, V2, r2, rfl, hk, HF, HOK, HTK⟩ := hrel
        clear HTR HON
        by_cases hltk : k < 3
        · have hltk' : (k : Int) < 3 := by omega
          have HPK : Hid ((ns2.set t (V2, r2))[t]? = some (V2, r2)) := by
            show _ = _
            rw [List.getElem?_set_self HTL.out]
          obtain ⟨gl, ra, rc, hla, hV, hcell, -, -, -, -⟩ := HTK.out.atN HPK.out
          subst hla hV
          have HTW : Hid (∀ o1 o2 : Obj, Td w3 ((wr.alloc o1).alloc o2) (ns2.set t (.slice ra r2.length rc, r2)) lv ws rows mine (.slice (some ⟨gl, 0, none⟩) 2 2) wv) := fun o1 o2 => (HTK.out.later ((Below.refl _ _).alloc (Nat.le_refl _) _)).later ((Below.refl _ _).alloc (Nat.le_refl _) _)
          have HSZ : Hid (∀ o1 o2 : Obj, w3.heap.size ≤ ((wr.alloc o1).alloc o2).heap.size) := fun o1 o2 => (HTW.out o1 o2).low.size
          go_wp2_with (at_builtin; refine wpList_append_famg rfl (.tmp 289) (.tmp 292) rfl (.slice none 0 0) 24 Tryd.underlying23 infR rfl w3.heap.size _ ((HTW.out _ _).fam) (HSZ.out _ _) (4 * t) _ r2 (HTK.out.fdN HPK.out) rfl _ [.slice (some ⟨wr.heap.size, 0, none⟩) 1 1] rfl (lat_lit' _ (by simp) _ _ _) (fun y hy => by simp at hy; subst hy; rfl) (by have := HF.out; simp; omega) (by decide) ?_; intro V3 w5 hf5 hg5 hn5; obtain ⟨⟨a5, n5, c5, e5⟩, hq1, hq2, hty, hq3⟩ := appN_done (HTW.out _ _) HPK.out hf5 hg5; have hon := on_app (V3 := V3) HOK.out HTL.out (HTW.out _ _) hg5 hty; subst e5; rw [List.set_set] at hq3; have HQ : Hid (Td w3 (w5.setCell ⟨gl, t, none⟩ (.slice a5 n5 c5)) (ns2.set t (.slice a5 n5 c5, r2 ++ [.slice (some ⟨wr.heap.size, 0, none⟩) 1 1])) lv ws rows mine (.slice (some ⟨gl, 0, none⟩) 2 2) wv) := hq3; have HQO : Hid (On 2 (ns2.set t (.slice a5 n5 c5, r2 ++ [.slice (some ⟨wr.heap.size, 0, none⟩) 1 1])) (w5.setCell ⟨gl, t, none⟩ (.slice a5 n5 c5))) := hon; clear hf5 hg5 hn5 hq3 hty hon)
          go_roundw
          case rel => exact ⟨k + 1, .slice a5 n5 c5, r2 ++ [.slice (some ⟨wr.heap.size, 0, none⟩) 1 1], by go_num, by omega, by have := HF.out; show _ ≤ _; simp; omega, HQO, HQ⟩
          case measure => simp [intOf]; omega
        · have hltk' : ¬ (k : Int) < 3 := by omega
          have HLE : Hid (r2.length ≤ 4099) := by have := HF.out; show _ ≤ _; omega
          go_wp2
          go_roundw
          case rel => exact ⟨t + 1, ns2.set t (V2, r2), by go_num, by omega, HLR.out.step HLE.out HTL.out, HOK, HTK⟩
          case measure => simp [intOf]; omega
    · have hlt' : ¬ (t : Int) < 2 := by omega
      have htn : t = 2 := by omega
      subst htn
      go_wp2_with fail
      refine HK.out _ _ ?_
      exact HX.out _ _ HTR.out HLR.out HON.out _ _ _ _ _ _ _ _ _ _ _ _ _ _ _ _ _ _ _ _ _ _ _ _ _ _ _ _ _ _ _ _ _ _ _ _ _ _ _ _ _ _ _ _ _ _ _ _ _ _ _ _ _ _ _ _ _ _ _ _ _ _ _ _ _ _ _ _ _ _ _ _ _ _ _ _ _ _ _ _ _ _ _ _ _ _ _ _ _ _ _ _ _ _ _ _ _ _ _ _ _ _ _ _ _ _ _ _ _ _ _ _ _ _ _ _ _ _ _ _ _ _ _ _ _ _ _ _ _ _ _ _ _ _ _ _ _ _ _ _ _ _ _ _ _ _ _ _ _ _ _ _ _ _ _ _ _ _ _ _ _ _ _ _ _ _ _ _ _ _ _ _ _ _ _ _ _ _ _ _ _ _ _ _ _ _ _ _ _ _ _ _ _ _ _ _ _ _ _ _ _ _ _ _ _ _ _ _ _ _ _ _ _ _ _ _ _ _ _ _ _ _ _ _ _ _ _ _ _ _ _ _ _ _ _ _ _ _ _ _ _ _ _ _ _ _ _ _ _ _ _ _ _ _ _ _ _ _ _ _ _ _ _ _ _ _ _ _ _ _ _ _ _ _ _ _ _ _ _ _ _ _ _ _ _ _ _ _ _ _ _ _ _ _ _ _ _ _ _ _ _ _ _ _ _ _ _ _ _ _ _ _ _ _ _ _ _ _ _ _ _ _ _ _ _ _ _ _ _ _ _ 
end Go.Proofs.YtdngileimmgdnaaDoor

/- all rows are their own -/
namespace Go.Proofs.YtdngileimmgdnaaDoor
open Go Go.RowKit
attribute [local go_sem ↓] Go.wp_at_zero Go.wp_at_succ

set_option maxRecDepth 20000 in
set_option maxHeartbeats 16000000 in
theorem tail24 {Q : Exit → Act → World → Prop} {w3 u : World} {ns : List (Value × List Value)} {lv : Value} {ws : List (Value × List Nat)} {rows : List (Value × List Int)} {mine : Rw} {sa : Option Addr} {wv : Value}
    (H : Hid (Td w3 u (ns) lv ws rows mine (.slice sa 2 2) wv)) (HLN : Hid (Ln 2 ns)) (HO : Hid (On 2 ns u))
    (next : Gd tl25 Q (.slice sa 2 2) lv wv u) : Gd tl24 Q (.slice sa 2 2) lv wv u := by
  unfold Gd
  intro s0 s1 s2 s3 s4 s5 s6 s7 s8 s9 s10 s11 s12 s13 s14 s18 s19 s20 s21 s22 s23 s24 s25 s26 s27 s28 s29 s30 s31 s32 s33 s34 s35 s36 s37 s38 s39 s40 s41 s42 s43 s44 s45 s46 s47 s48 s49 s50 s51 s52 s53 s54 s55 s56 s57 s58 s59 s60 s61 s62 s63 s64 s65 s66 s67 s68 s69 s70 s71 s72 s73 s74 s75 s76 s77 s78 s79 s80 s81 s82 s83 s84 s85 s86 s87 s88 s89 s90 s91 s92 s93 s94 s95 s96 s97 s98 s99 s100 s101 s102 s103 s104 s105 s106 s107 s108 s109 s110 s111 s112 s113 s114 s115 s116 s117 s118 s119 s120 s121 s122 s123 s124 s125 s126 s127 s128 s129 s130 s131 s132 s133 s134 s135 s136 s137 s138 s139 s140 s141 s142 s143 s144 s145 s146 s147 s148 s149 s150 s151 s152 s153 s154 s155 s156 s157 s158 s159 s160 s161 s162 s163 s164 s165 s166 s167 s168 s169 s170 s171 s172 s173 s174 s175 s176 s177 s178 s179 s180 s181 s182 s183 s184 s185 s186 s187 s188 s189 s190 s191 s192 s193 s194 s195 s196 s197 s198 s199 s200 s201 s202 s203 s204 s205 s206 s207 s208 s209 s210 s211 s212 s213 s214 s215 s216 s217 s218 s219 s220 s221 s222 s223 s224 s225 s226 s227 s228 s229 s230 s231 s232 s233 s234 s235 s236 s237 s238 s239 s240 s241 s242 s243 s244 s245 s246 s247 s248 s249 s250 s251 s252 s253 s254 s255 s256 s257 s258 s259 s260 s261 s262 s263 s264 s265 s266 s267 s268 s269 s270 s271 s272 s273 s274 s275 s276 s277 s278 s279 s280 s281 s282 s283 s284 s285 s286 s287 s288 s289 s290 s291 s292 s293 s294 s295 s296 s297 s298 s299 s300 s301 s302 s303 s304 s305 s306 s307 s308 s309 s310 s311 s312 s313 s314 s315 s316 s317 s318 s319 s320 s321 s322 s323 s324 s325 s326 s327 s328 s329 s330 s331 s332 s333
  conv => arg 2; whnf
  apply wp_seq_k
  intro K hK
  have HK : Hid (∀ a w, _ → K a w) := hK
  have HX : Hid _ := next
  clear hK next
  go_wp2_with fail
  go_loop [299] (fun i => ∃ t : Nat, i = .int .i64 (t : Nat) ∧ t ≤ 2) (fun i => 2 - (intOf i).toNat)
  case atStart => exact ⟨0, rfl, by omega⟩
  case round =>
    obtain ⟨t, rfl, ht⟩ := hrel
    by_cases hlt : t < 2
    · have hlt' : (t : Int) < 2 := by omega
      obtain ⟨p, hp⟩ : ∃ p, ns[t]? = some p := ⟨_, List.getElem?_eq_getElem (by rw [H.out.two]; exact hlt)⟩
      obtain ⟨V, r⟩ := p
      obtain ⟨gl, ra, rc, hla, hV, hcell, -, hrc, hrm, hat⟩ := H.out.atN hp
      obtain ⟨L, hL⟩ : ∃ L, r.length = L := ⟨_, rfl⟩
      rw [hL] at hV hrc
      have hL4 : L ≤ 4099 := by rw [← hL]; exact (HLN.out t _ hp).1
      have HAT : Hid (∀ k x, r[k]? = some x → ∃ g, ra = some ⟨g, 0, none⟩ ∧ u.cell? ⟨g, k, none⟩ = some x ∧ u.frozen? ⟨g, k, none⟩ = false) := hat
      have HRO : Hid (∀ x ∈ r, One u x t) := HO.out t _ hlt hp
      have HL : Hid (r.length = L) := hL
      subst hla hV
      clear hp hL hat
      go_wp2
      go_loop [307] (fun i => ∃ k : Nat, i = .int .i64 (k : Nat) ∧ k ≤ L) (fun i => L - (intOf i).toNat)
      case atStart => exact ⟨0, rfl, by omega⟩
      case round =>
        obtain ⟨k, rfl, hk⟩ := hrel
        by_cases hltk : k < L
        · have hltk' : (k : Int) < (L : Int) := by omega
          obtain ⟨x, hx⟩ : ∃ x, r[k]? = some x := ⟨_, List.getElem?_eq_getElem (by rw [HL.out]; exact hltk)⟩
          obtain ⟨g, hg, hc2, -⟩ := HAT.out k x hx
          obtain ⟨h1, ex, hc4, -⟩ := HRO.out x (List.mem_of_getElem? hx)
          subst hg ex
          clear hx
          go_wp2
          go_round
          case rel => exact ⟨k + 1, by go_num, by omega⟩
          case measure => simp [intOf]; omega
        · have hltk' : ¬ (k : Int) < (L : Int) := by omega
          go_wp2
          go_round
          case rel => exact ⟨t + 1, by go_num, by omega⟩
          case measure => simp [intOf]; omega
    · have hlt' : ¬ (t : Int) < 2 := by omega
      go_wp2_with fail
      refine HK.out _ _ ?_
      exact HX.out _ _ _ _ _ _ _ _ _ _ _ _ _ _ _ _ _ _ _ _ _ _ _ _ _ _ _ _ _ _ _ _ _ _ _ _ _ _ _ _ _ _ _ _ _ _ _ _ _ _ _ _ _ _ _ _ _ _ _ _ _ _ _ _ _ _ _ _ _ _ _ _ _ _ _ _ _ _ _ _ _ _ _ _ _ _ _ _ _ _ _ _ _ _ _ _ _ _ _ _ _ _ _ _ _ _ _ _ _ _ _ _ _ _ _ _ _ _ _ _ _ _ _ _ _ _ _ _ _ _ _ _ _ _ _ _ _ _ _ _ _ _ _ _ _ _ _ _ _ _ _ _ _ _ _ _ _ _ _ _ _ _ _ _ _ _ _ _ _ _ _ _ _ _ _ _ _ _ _ _ _ _ _ _ _ _ _ _ _ _ _ _ _ _ _ _ _ _ _ _ _ _ _ _ _ _ _ _ _ _ _ _ _ _ _ _ _ _ _ _ _ _ _ _ _ _ _ _ _ _ _ _ _ _ _ _ _ _ _ _ _ _ _ _ _ _ _ _ _ _ _ _ _ _ _ _ _ _ _ _ _ _ _ _ _ _ _ _ _ _ _ _ _ _ _ _ _ _ _ _ _ _ _ _ _ _ _ _ _ _ _ _ _ _ _ _ _ _ _ _ _ _ _ _ _ _ _ _ _ _ _ _ _ _ _ _ _ _ _ _ _ _ _ _ _ _ _ _ _ _ _ 
end Go.Proofs.YtdngileimmgdnaaDoor

/- the end -/
namespace Go.Proofs.YtdngileimmgdnaaDoor
open Go Go.RowKit
attribute [local go_sem ↓] Go.wp_at_zero Go.wp_at_succ

set_option maxRecDepth 20000 in
set_option maxHeartbeats 16000000 in
theorem tail25 {w u : World} {rsv lv wv : Value} (hb : Below w.heap.size w u) : Gd tl25 (bodyPost Tryd.prog Tryd.f6 fun e w2 => e = .returned (.bool true) ∧ Below w.heap.size w w2) rsv lv wv u := by
  have HB : Hid (Below w.heap.size w u) := hb
  clear hb
  unfold Gd
  intro s0 s1 s2 s3 s4 s5 s6 s7 s8 s9 s10 s11 s12 s13 s14 s18 s19 s20 s21 s22 s23 s24 s25 s26 s27 s28 s29 s30 s31 s32 s33 s34 s35 s36 s37 s38 s39 s40 s41 s42 s43 s44 s45 s46 s47 s48 s49 s50 s51 s52 s53 s54 s55 s56 s57 s58 s59 s60 s61 s62 s63 s64 s65 s66 s67 s68 s69 s70 s71 s72 s73 s74 s75 s76 s77 s78 s79 s80 s81 s82 s83 s84 s85 s86 s87 s88 s89 s90 s91 s92 s93 s94 s95 s96 s97 s98 s99 s100 s101 s102 s103 s104 s105 s106 s107 s108 s109 s110 s111 s112 s113 s114 s115 s116 s117 s118 s119 s120 s121 s122 s123 s124 s125 s126 s127 s128 s129 s130 s131 s132 s133 s134 s135 s136 s137 s138 s139 s140 s141 s142 s143 s144 s145 s146 s147 s148 s149 s150 s151 s152 s153 s154 s155 s156 s157 s158 s159 s160 s161 s162 s163 s164 s165 s166 s167 s168 s169 s170 s171 s172 s173 s174 s175 s176 s177 s178 s179 s180 s181 s182 s183 s184 s185 s186 s187 s188 s189 s190 s191 s192 s193 s194 s195 s196 s197 s198 s199 s200 s201 s202 s203 s204 s205 s206 s207 s208 s209 s210 s211 s212 s213 s214 s215 s216 s217 s218 s219 s220 s221 s222 s223 s224 s225 s226 s227 s228 s229 s230 s231 s232 s233 s234 s235 s236 s237 s238 s239 s240 s241 s242 s243 s244 s245 s246 s247 s248 s249 s250 s251 s252 s253 s254 s255 s256 s257 s258 s259 s260 s261 s262 s263 s264 s265 s266 s267 s268 s269 s270 s271 s272 s273 s274 s275 s276 s277 s278 s279 s280 s281 s282 s283 s284 s285 s286 s287 s288 s289 s290 s291 s292 s293 s294 s295 s296 s297 s298 s299 s300 s301 s302 s303 s304 s305 s306 s307 s308 s309 s310 s311 s312 s313 s314 s315 s316 s317 s318 s319 s320 s321 s322 s323 s324 s325 s326 s327 s328 s329 s330 s331 s332 s333
  conv => arg 2; whnf
  go_wp2
  go_ret
  exact ⟨rfl, HB.out⟩
end Go.Proofs.YtdngileimmgdnaaDoor

/- TableDecodes from its lists to its end. -/
namespace Go.Proofs.YtdngileimmgdnaaDoor
open Go Go.RowKit

theorem tail_all {w w3 u : World} {ns : List (Value × List Value)} {la : Option Addr} {N lc : Nat} {ws : List (Value × List Nat)} {rows : List (Value × List Int)} {mine : Rw} {sa wa : Option Addr} (h : Td w3 u ns (.slice la N lc) ws rows mine (.slice sa 2 2) (.slice wa 4 4)) (hi : ShI N 4096 0 rows) (hw : ShW 4096 0 ws) (hN : N ≤ 8192) (hl : Ln 0 ns) (hb : Below w.heap.size w w3) :
    Gd tl16 (bodyPost Tryd.prog Tryd.f6 fun e w2 => e = .returned (.bool true) ∧ Below w.heap.size w w2) (.slice sa 2 2) (.slice la N lc) (.slice wa 4 4) u :=
  tail16 h hi hN fun _ _ h2 hi2 => tail17 h2 hw fun _ _ h3 hw2 => tail18 h3 hi2 hw2 hN <|
    tail19 h3 (AfI.start hi2) hN fun _ _ h4 hi3 => tail20 h4 (AfW.start hw2) fun _ _ h5 hw3 => tail21 h5 hi3.sh hw3.sh hN <|
    tail22 h5 hl fun _ _ h6 hl2 ho2 => tail23 h6 hl2 ho2 fun _ _ h7 hl3 ho3 => tail24 h7 hl3 ho3 (tail25 (below_step hb h7.low))
end Go.Proofs.YtdngileimmgdnaaDoor
