/- What TableDecodes' walk has until the lists are laid together. -/
import Derived.Test.YtdngileimmgdnaaDoorG33
import Derived.Test.YtdngileimmgdnaaDoorG34
namespace Go.Proofs.YtdngileimmgdnaaDoor
open Go Go.RowKit
attribute [local go_sem ↓] Go.wp_at_zero Go.wp_at_succ

/-- a row of bytes alone -/
theorem fam_mine {B : Nat} {u : World} {v : Value} {z : List Int} (h : u.ownsRow B 5 1 v z.length (cellsOf z)) : Fam B u (fd [] [] [] [(5, v, cellsOf z)]) := by
  have key : ∀ i t x xs, fd [] [] [] [(5, v, cellsOf z)] i = some (t, x, xs) → i = 3 ∧ t = 5 ∧ x = v ∧ xs = cellsOf z := fun i t x xs hh => by
    have c4 : i % 4 = 0 ∨ i % 4 = 1 ∨ i % 4 = 2 ∨ i % 4 = 3 := by omega
    obtain ⟨j, hj⟩ : ∃ j, j = i / 4 := ⟨_, rfl⟩
    rcases c4 with c | c | c | c
    · obtain rfl : i = 4 * j := by omega
      rw [fd0] at hh; simp at hh
    · obtain rfl : i = 4 * j + 1 := by omega
      rw [fd1] at hh; simp at hh
    · obtain rfl : i = 4 * j + 2 := by omega
      rw [fd2] at hh; simp at hh
    · obtain rfl : i = 4 * j + 3 := by omega
      rw [fd3] at hh
      cases j with
      | succ j => simp at hh
      | zero => simp at hh; exact ⟨rfl, hh.1.symm, hh.2.1.symm, hh.2.2.symm⟩
  refine ⟨fun i t x xs hh => ?_, fun i j t x xs t' x' xs' k h1 h2 _ _ => ?_⟩
  · obtain ⟨_, rfl, rfl, rfl⟩ := key i t x xs hh
    rw [cellsOf_length]; exact h
  · obtain ⟨rfl, _⟩ := key i _ _ _ h1
    obtain ⟨rfl, _⟩ := key j _ _ _ h2
    rfl
/-- no row is of a table's type -/
theorem fd_types {nxs : List (Value × List Value)} {ws : List (Value × List Nat)} {rows : List (Value × List Int)} {z : List Int} {v : Value} {i : Nat} {t : TypeId} {x : Value} {xs : List Value} (h : fd nxs ws rows [(5, v, cellsOf z)] i = some (t, x, xs)) : t ≠ 26 := by
  unfold fd at h
  split at h
  · cases hh : nxs[i / 4]? with
    | none => rw [hh] at h; simp at h
    | some p => rw [hh] at h; simp at h; rw [← h.1]; decide
  · split at h
    · cases hh : ws[i / 4]? with
      | none => rw [hh] at h; simp at h
      | some p => rw [hh] at h; simp at h; rw [← h.1]; decide
    · split at h
      · cases hh : rows[i / 4]? with
        | none => rw [hh] at h; simp at h
        | some p => rw [hh] at h; simp at h; rw [← h.1]; decide
      · cases hh : ([(5, v, cellsOf z)] : List Rw)[i / 4]? with
        | none => rw [hh] at h; simp at h
        | some p =>
          have := List.mem_of_getElem? hh
          simp at this
          subst this
          rw [hh] at h
          simp at h
          rw [← h.1]
          decide
/-- the state until the lists are laid together -/
structure Tp (w3 u : World) (P6 P8 : Nat) (x y : Dt) (X1 X2 X3 Y1 Y2 Y3 : Value) (Us Ws : List Value) (mv : Value) (mz : List Int) : Prop where
  fam : Fam w3.heap.size u (fd [(X1, Us), (Y1, Ws)] [(X2, x.fo), (X3, x.en), (Y2, y.fo), (Y3, y.en)] (Us.zip x.nx ++ Ws.zip y.nx) [(5, mv, cellsOf mz)])
  low : Below w3.heap.size w3 u
  db6 : DB u P6 x.cl X1 X2 X3
  db8 : DB u P8 y.cl Y1 Y2 Y3
  lu : Us.length = x.nx.length
  lw : Ws.length = y.nx.length
theorem Tp.later {w3 u v : World} {P6 P8 : Nat} {x y : Dt} {X1 X2 X3 Y1 Y2 Y3 : Value} {Us Ws : List Value} {mv : Value} {mz : List Int} (h : Tp w3 u P6 P8 x y X1 X2 X3 Y1 Y2 Y3 Us Ws mv mz) (hb : Below u.heap.size u v) : Tp w3 v P6 P8 x y X1 X2 X3 Y1 Y2 Y3 Us Ws mv mz := ⟨h.fam.later hb, below_step h.low hb, h.db6.later hb, h.db8.later hb, h.lu, h.lw⟩
theorem zip_at {Us : List Value} {R : List (List Int)} (hl : Us.length = R.length) {s : Nat} {U : Value} (h : Us[s]? = some U) : (Us.zip R)[s]? = some (U, R.getD s []) := by
  have hs := (List.getElem?_eq_some_iff.1 h).1
  rw [List.getElem?_zip_eq_some]
  exact ⟨h, by rw [List.getD_eq_getElem?_getD, List.getElem?_eq_getElem (by omega)]; rfl⟩
theorem Tp.dfx {w3 u : World} {P6 P8 : Nat} {x y : Dt} {X1 X2 X3 Y1 Y2 Y3 : Value} {Us Ws : List Value} {mv : Value} {mz : List Int} (h : Tp w3 u P6 P8 x y X1 X2 X3 Y1 Y2 Y3 Us Ws mv mz) (bf : ∀ z ∈ x.fo, z < 4294967296) (be : ∀ z ∈ x.en, z < 4294967296) : DfAt u x X1 X2 X3 Us := by
  refine ⟨owns_lat (h.fam.own (4 * 0) _ _ _ (by rw [fd0]; rfl)), h.lu, fun s U hU => ?_, owns_lat (h.fam.own (4 * 0 + 1) _ _ _ (by rw [fd1]; rfl)), owns_lat (h.fam.own (4 * 1 + 1) _ _ _ (by rw [fd1]; rfl)), bf, be⟩
  have hz := zip_at h.lu hU
  exact owns_lat (h.fam.own (4 * s + 2) 3 U (ints (x.row s)) (by rw [fd2, List.getElem?_append_left (List.getElem?_eq_some_iff.1 hz).1, hz]; rfl))
theorem Tp.mput {w3 u : World} {P6 P8 : Nat} {x y : Dt} {X1 X2 X3 Y1 Y2 Y3 : Value} {Us Ws : List Value} {g n c : Nat} {mz : List Int} (h : Tp w3 u P6 P8 x y X1 X2 X3 Y1 Y2 Y3 Us Ws (.slice (some ⟨g, 0, none⟩) n c) mz) (k : Nat) (z : Int) : Tp w3 (u.setCell ⟨g, k, none⟩ (.int .u8 z)) P6 P8 x y X1 X2 X3 Y1 Y2 Y3 Us Ws (.slice (some ⟨g, 0, none⟩) n c) (mz.set k z) := by
  have hi : fd [(X1, Us), (Y1, Ws)] [(X2, x.fo), (X3, x.en), (Y2, y.fo), (Y3, y.en)] (Us.zip x.nx ++ Ws.zip y.nx) [(5, .slice (some ⟨g, 0, none⟩) n c, cellsOf mz)] (4 * 0 + 3) = some (5, .slice (some ⟨g, 0, none⟩) n c, cellsOf mz) := by rw [fd3]; rfl
  have hg := own_at (h.fam.own _ _ _ _ hi) g rfl
  have hdb : ∀ {P : Nat} {f : Nat → Int} {A B C : Value}, DB u P f A B C → DB (u.setCell ⟨g, k, none⟩ (.int .u8 z)) P f A B C := fun {P f A B C} hd => hd.same (Below.heap_setCell u ⟨g, k, none⟩ _ P (fun e => by
    have e' : P = g := e
    have h1 := hg.2.2
    rw [← e'] at h1
    exact absurd (TyB.ne h1 hd.ty) (by decide)))
  refine ⟨?_, h.low.setCell (p := ⟨g, k, none⟩) hg.1 _, hdb h.db6, hdb h.db8, h.lu, h.lw⟩
  have := h.fam.put hi k (.int .u8 z)
  rw [cellsOf_set, fd_set3 _ _ _ _ (by simp)] at this
  exact this
/-- the lists laid together -/
theorem td_start {w3 u v v' v2 : World} {P6 P8 : Nat} {x y : Dt} {X1 X2 X3 Y1 Y2 Y3 : Value} {Us Ws : List Value} {mv : Value} {mz : List Int} (h : Tp w3 u P6 P8 x y X1 X2 X3 Y1 Y2 Y3 Us Ws mv mz) (hv : v = u.alloc (.cells #[X1, Y1] 23)) {lv : Value} (ho : v'.ownsRow v.heap.size 41 1 lv (Us ++ Ws).length (Us ++ Ws)) (hb : Below v.heap.size v v') (hv2 : v2 = v'.alloc (.cells #[X2, X3, Y2, Y3] 24)) :
    Td w3 v2 [(X1, Us), (Y1, Ws)] lv [(X2, x.fo), (X3, x.en), (Y2, y.fo), (Y3, y.en)] (Us.zip x.nx ++ Ws.zip y.nx) (5, mv, cellsOf mz) (.slice (some ⟨u.heap.size, 0, none⟩) 2 2) (.slice (some ⟨v'.heap.size, 0, none⟩) 4 4) := by
  have k1 : Below u.heap.size u v := by rw [hv]; exact (Below.refl _ _).alloc (Nat.le_refl _) _
  have k2 : Below v'.heap.size v' v2 := by rw [hv2]; exact (Below.refl _ _).alloc (Nat.le_refl _) _
  have f1 := h.fam.add k1 (i := 4 * 1 + 3) (t := 23) (x := .slice (some ⟨u.heap.size, 0, none⟩) 2 2) (xs := [X1, Y1]) (by rw [hv]; exact World.ownsRow_lit u #[X1, Y1] 2 (Nat.le_refl _) (by decide) rfl) h.low.size
  have e1 := fd_more3 [(X1, Us), (Y1, Ws)] [(X2, x.fo), (X3, x.en), (Y2, y.fo), (Y3, y.en)] (Us.zip x.nx ++ Ws.zip y.nx) [(5, mv, cellsOf mz)] (23, .slice (some ⟨u.heap.size, 0, none⟩) 2 2, [X1, Y1])
  simp only [List.length_cons, List.length_nil, Nat.zero_add] at e1
  rw [e1] at f1
  have hA1 : w3.heap.size ≤ v.heap.size := Nat.le_trans h.low.size k1.size
  have f2 := f1.add hb (i := 4 * 2) ho hA1
  have e2 := fd_more0 [(X1, Us), (Y1, Ws)] [(X2, x.fo), (X3, x.en), (Y2, y.fo), (Y3, y.en)] (Us.zip x.nx ++ Ws.zip y.nx) ([(5, mv, cellsOf mz)] ++ [(23, .slice (some ⟨u.heap.size, 0, none⟩) 2 2, [X1, Y1])]) lv (Us ++ Ws)
  simp only [List.length_cons, List.length_nil, Nat.zero_add, Nat.reduceAdd] at e2
  rw [e2] at f2
  have f3 := f2.add k2 (i := 4 * 2 + 3) (t := 24) (x := .slice (some ⟨v'.heap.size, 0, none⟩) 4 4) (xs := [X2, X3, Y2, Y3]) (by rw [hv2]; exact World.ownsRow_lit v' #[X2, X3, Y2, Y3] 4 (Nat.le_refl _) (by decide) rfl) (Nat.le_trans hA1 hb.size)
  have e3 := fd_more3 ([(X1, Us), (Y1, Ws)] ++ [(lv, Us ++ Ws)]) [(X2, x.fo), (X3, x.en), (Y2, y.fo), (Y3, y.en)] (Us.zip x.nx ++ Ws.zip y.nx) ([(5, mv, cellsOf mz)] ++ [(23, .slice (some ⟨u.heap.size, 0, none⟩) 2 2, [X1, Y1])]) (24, .slice (some ⟨v'.heap.size, 0, none⟩) 4 4, [X2, X3, Y2, Y3])
  simp only [List.length_append, List.length_cons, List.length_nil, Nat.zero_add, Nat.reduceAdd] at e3
  rw [e3] at f3
  refine ⟨?_, below_step (below_step (below_step h.low k1) hb) k2, rfl⟩
  have em : (Us.zip x.nx ++ Ws.zip y.nx).map Prod.fst = Us ++ Ws := by
    rw [List.map_append, List.map_fst_zip (by rw [h.lu]; exact Nat.le_refl _), List.map_fst_zip (by rw [h.lw]; exact Nat.le_refl _)]
  rw [em]
  exact f3
end Go.Proofs.YtdngileimmgdnaaDoor

/- The rest of TableDecodes' code. -/
namespace Go.Proofs.YtdngileimmgdnaaDoor
open Go Go.RowKit

/-- the code behind the first statement -/
def sq : Code → Code
  | .seq _ b => b
  | c => c
def cbody (f : Func) : Code := match f.body with
  | some c => c
  | none => .skip
/-- the code goes well at u, whatever the other slots hold -/
def Gd (c : Code) (Q : Exit → Act → World → Prop) (rsv lv wv : Value) (u : World) : Prop := ∀ (s0 s1 s2 s3 s4 s5 s6 s7 s8 s9 s10 s11 s12 s13 s14 s18 s19 s20 s21 s22 s23 s24 s25 s26 s27 s28 s29 s30 s31 s32 s33 s34 s35 s36 s37 s38 s39 s40 s41 s42 s43 s44 s45 s46 s47 s48 s49 s50 s51 s52 s53 s54 s55 s56 s57 s58 s59 s60 s61 s62 s63 s64 s65 s66 s67 s68 s69 s70 s71 s72 s73 s74 s75 s76 s77 s78 s79 s80 s81 s82 s83 s84 s85 s86 s87 s88 s89 s90 s91 s92 s93 s94 s95 s96 s97 s98 s99 s100 s101 s102 s103 s104 s105 s106 s107 s108 s109 s110 s111 s112 s113 s114 s115 s116 s117 s118 s119 s120 s121 s122 s123 s124 s125 s126 s127 s128 s129 s130 s131 s132 s133 s134 s135 s136 s137 s138 s139 s140 s141 s142 s143 s144 s145 s146 s147 s148 s149 s150 s151 s152 s153 s154 s155 s156 s157 s158 s159 s160 s161 s162 s163 s164 s165 s166 s167 s168 s169 s170 s171 s172 s173 s174 s175 s176 s177 s178 s179 s180 s181 s182 s183 s184 s185 s186 s187 s188 s189 s190 s191 s192 s193 s194 s195 s196 s197 s198 s199 s200 s201 s202 s203 s204 s205 s206 s207 s208 s209 s210 s211 s212 s213 s214 s215 s216 s217 s218 s219 s220 s221 s222 s223 s224 s225 s226 s227 s228 s229 s230 s231 s232 s233 s234 s235 s236 s237 s238 s239 s240 s241 s242 s243 s244 s245 s246 s247 s248 s249 s250 s251 s252 s253 s254 s255 s256 s257 s258 s259 s260 s261 s262 s263 s264 s265 s266 s267 s268 s269 s270 s271 s272 s273 s274 s275 s276 s277 s278 s279 s280 s281 s282 s283 s284 s285 s286 s287 s288 s289 s290 s291 s292 s293 s294 s295 s296 s297 s298 s299 s300 s301 s302 s303 s304 s305 s306 s307 s308 s309 s310 s311 s312 s313 s314 s315 s316 s317 s318 s319 s320 s321 s322 s323 s324 s325 s326 s327 s328 s329 s330 s331 s332 s333 : Value), c.wp Tryd.prog Q { tmps := #[s0, s1, s2, s3, s4, s5, s6, s7, s8, s9, s10, s11, s12, s13, s14, rsv, lv, wv, s18, s19, s20, s21, s22, s23, s24, s25, s26, s27, s28, s29, s30, s31, s32, s33, s34, s35, s36, s37, s38, s39, s40, s41, s42, s43, s44, s45, s46, s47, s48, s49, s50, s51, s52, s53, s54, s55, s56, s57, s58, s59, s60, s61, s62, s63, s64, s65, s66, s67, s68, s69, s70, s71, s72, s73, s74, s75, s76, s77, s78, s79, s80, s81, s82, s83, s84, s85, s86, s87, s88, s89, s90, s91, s92, s93, s94, s95, s96, s97, s98, s99, s100, s101, s102, s103, s104, s105, s106, s107, s108, s109, s110, s111, s112, s113, s114, s115, s116, s117, s118, s119, s120, s121, s122, s123, s124, s125, s126, s127, s128, s129, s130, s131, s132, s133, s134, s135, s136, s137, s138, s139, s140, s141, s142, s143, s144, s145, s146, s147, s148, s149, s150, s151, s152, s153, s154, s155, s156, s157, s158, s159, s160, s161, s162, s163, s164, s165, s166, s167, s168, s169, s170, s171, s172, s173, s174, s175, s176, s177, s178, s179, s180, s181, s182, s183, s184, s185, s186, s187, s188, s189, s190, s191, s192, s193, s194, s195, s196, s197, s198, s199, s200, s201, s202, s203, s204, s205, s206, s207, s208, s209, s210, s211, s212, s213, s214, s215, s216, s217, s218, s219, s220, s221, s222, s223, s224, s225, s226, s227, s228, s229, s230, s231, s232, s233, s234, s235, s236, s237, s238, s239, s240, s241, s242, s243, s244, s245, s246, s247, s248, s249, s250, s251, s252, s253, s254, s255, s256, s257, s258, s259, s260, s261, s262, s263, s264, s265, s266, s267, s268, s269, s270, s271, s272, s273, s274, s275, s276, s277, s278, s279, s280, s281, s282, s283, s284, s285, s286, s287, s288, s289, s290, s291, s292, s293, s294, s295, s296, s297, s298, s299, s300, s301, s302, s303, s304, s305, s306, s307, s308, s309, s310, s311, s312, s313, s314, s315, s316, s317, s318, s319, s320, s321, s322, s323, s324, s325, s326, s327, s328, s329, s330, s331, s332, s333], defers := [] } u
noncomputable abbrev tl16 : Code := (sq (sq (sq (sq (sq (sq (sq (sq (sq (sq (sq (sq (sq (sq (sq (sq (cbody Tryd.f6)))))))))))))))))
noncomputable abbrev tl17 : Code := (sq (sq (sq (sq (sq (sq (sq (sq (sq (sq (sq (sq (sq (sq (sq (sq (sq (cbody Tryd.f6))))))))))))))))))
noncomputable abbrev tl18 : Code := (sq (sq (sq (sq (sq (sq (sq (sq (sq (sq (sq (sq (sq (sq (sq (sq (sq (sq (cbody Tryd.f6)))))))))))))))))))
noncomputable abbrev tl19 : Code := (sq (sq (sq (sq (sq (sq (sq (sq (sq (sq (sq (sq (sq (sq (sq (sq (sq (sq (sq (cbody Tryd.f6))))))))))))))))))))
noncomputable abbrev tl20 : Code := (sq (sq (sq (sq (sq (sq (sq (sq (sq (sq (sq (sq (sq (sq (sq (sq (sq (sq (sq (sq (cbody Tryd.f6)))))))))))))))))))))
noncomputable abbrev tl21 : Code := (sq (sq (sq (sq (sq (sq (sq (sq (sq (sq (sq (sq (sq (sq (sq (sq (sq (sq (sq (sq (sq (cbody Tryd.f6))))))))))))))))))))))
noncomputable abbrev tl22 : Code := (sq (sq (sq (sq (sq (sq (sq (sq (sq (sq (sq (sq (sq (sq (sq (sq (sq (sq (sq (sq (sq (sq (cbody Tryd.f6)))))))))))))))))))))))
noncomputable abbrev tl23 : Code := (sq (sq (sq (sq (sq (sq (sq (sq (sq (sq (sq (sq (sq (sq (sq (sq (sq (sq (sq (sq (sq (sq (sq (cbody Tryd.f6))))))))))))))))))))))))
noncomputable abbrev tl24 : Code := (sq (sq (sq (sq (sq (sq (sq (sq (sq (sq (sq (sq (sq (sq (sq (sq (sq (sq (sq (sq (sq (sq (sq (sq (cbody Tryd.f6)))))))))))))))))))))))))
noncomputable abbrev tl25 : Code := (sq (sq (sq (sq (sq (sq (sq (sq (sq (sq (sq (sq (sq (sq (sq (sq (sq (sq (sq (sq (sq (sq (sq (sq (sq (cbody Tryd.f6))))))))))))))))))))))))))
end Go.Proofs.YtdngileimmgdnaaDoor

/- the rows bear their marks -/
namespace Go.Proofs.YtdngileimmgdnaaDoor
open Go Go.RowKit
attribute [local go_sem ↓] Go.wp_at_zero Go.wp_at_succ

set_option maxRecDepth 20000 in
set_option maxHeartbeats 16000000 in
theorem tail16 {Q : Exit → Act → World → Prop} {w3 u : World} {ns : List (Value × List Value)} {la : Option Addr} {N lc : Nat} {ws : List (Value × List Nat)} {rows : List (Value × List Int)} {mine : Rw} {sa : Option Addr} {wv : Value}
    (H : Hid (Td w3 u ns (.slice la N lc) ws (rows) mine (.slice sa 2 2) wv)) (HI : Hid (ShI N 4096 0 rows)) (hN : N ≤ 8192)
    (next : ∀ u2 rows2, Td w3 u2 ns (.slice la N lc) ws (rows2) mine (.slice sa 2 2) wv → ShI N 4096 N rows2 → Gd tl17 Q (.slice sa 2 2) (.slice la N lc) wv u2) : Gd tl16 Q (.slice sa 2 2) (.slice la N lc) wv u := by
  unfold Gd
  intro s0 s1 s2 s3 s4 s5 s6 s7 s8 s9 s10 s11 s12 s13 s14 s18 s19 s20 s21 s22 s23 s24 s25 s26 s27 s28 s29 s30 s31 s32 s33 s34 s35 s36 s37 s38 s39 s40 s41 s42 s43 s44 s45 s46 s47 s48 s49 s50 s51 s52 s53 s54 s55 s56 s57 s58 s59 s60 s61 s62 s63 s64 s65 s66 s67 s68 s69 s70 s71 s72 s73 s74 s75 s76 s77 s78 s79 s80 s81 s82 s83 s84 s85 s86 s87 s88 s89 s90 s91 s92 s93 s94 s95 s96 s97 s98 s99 s100 s101 s102 s103 s104 s105 s106 s107 s108 s109 s110 s111 s112 s113 s114 s115 s116 s117 s118 s119 s120 s121 s122 s123 s124 s125 s126 s127 s128 s129 s130 s131 s132 s133 s134 s135 s136 s137 s138 s139 s140 s141 s142 s143 s144 s145 s146 s147 s148 s149 s150 s151 s152 s153 s154 s155 s156 s157 s158 s159 s160 s161 s162 s163 s164 s165 s166 s167 s168 s169 s170 s171 s172 s173 s174 s175 s176 s177 s178 s179 s180 s181 s182 s183 s184 s185 s186 s187 s188 s189 s190 s191 s192 s193 s194 s195 s196 s197 s198 s199 s200 s201 s202 s203 s204 s205 s206 s207 s208 s209 s210 s211 s212 s213 s214 s215 s216 s217 s218 s219 s220 s221 s222 s223 s224 s225 s226 s227 s228 s229 s230 s231 s232 s233 s234 s235 s236 s237 s238 s239 s240 s241 s242 s243 s244 s245 s246 s247 s248 s249 s250 s251 s252 s253 s254 s255 s256 s257 s258 s259 s260 s261 s262 s263 s264 s265 s266 s267 s268 s269 s270 s271 s272 s273 s274 s275 s276 s277 s278 s279 s280 s281 s282 s283 s284 s285 s286 s287 s288 s289 s290 s291 s292 s293 s294 s295 s296 s297 s298 s299 s300 s301 s302 s303 s304 s305 s306 s307 s308 s309 s310 s311 s312 s313 s314 s315 s316 s317 s318 s319 s320 s321 s322 s323 s324 s325 s326 s327 s328 s329 s330 s331 s332 s333
  conv => arg 2; whnf
  apply wp_seq_k
  intro K hK
  have HK : Hid (∀ a w, _ → K a w) := hK
  have HX : Hid _ := next
  clear hK next
  go_wp2_with fail
  go_loopw [160] (fun i u2 => ∃ (t : Nat) (rw2 : List (Value × List Int)), i = .int .i64 (t : Nat) ∧ t ≤ N ∧ Hid (ShI N 4096 t rw2) ∧ Hid (Td w3 u2 ns (.slice la N lc) ws (rw2) mine (.slice sa 2 2) wv)) (fun i _ => N - (intOf i).toNat)
  case atStart => exact ⟨0, rows, rfl, by omega, HI, H⟩
  case round =>
    obtain ⟨t, rw2, rfl, ht, HIR, HTR⟩ := hrel
    clear H HI
    by_cases hlt : t < N
    · have hlt' : (t : Int) < (N : Int) := by omega
      obtain ⟨p, hp⟩ : ∃ p, rw2[t]? = some p := ⟨_, List.getElem?_eq_getElem (by rw [HIR.out.n]; exact hlt)⟩
      obtain ⟨V, r⟩ := p
      obtain ⟨gl, ra, rc, hla, hV, hcell, -, hrc, hrm, -⟩ := HTR.out.atI hp
      obtain ⟨L, hL⟩ : ∃ L, r.length = L := ⟨_, rfl⟩
      rw [hL] at hV hrc
      have hL4 : L ≤ 4096 := by rw [← hL]; exact HIR.out.c _ (List.mem_of_getElem? hp)
      have HP : Hid (rw2[t]? = some (V, r)) := hp
      have HL : Hid (r.length = L) := hL
      subst hla hV
      clear hp hL
      go_wp2
      go_loopw [168] (fun i u2 => ∃ (k : Nat) (r2 : List Int), i = .int .i64 (k : Nat) ∧ k ≤ L ∧ Hid (Fl (-1000 - (t : Int)) k L r2) ∧ Hid (Td w3 u2 ns (.slice (some ⟨gl, 0, none⟩) N lc) ws (rw2.set t (.slice ra L rc, r2)) mine (.slice sa 2 2) wv)) (fun i _ => L - (intOf i).toNat)
      case atStart => exact ⟨0, r, rfl, by omega, ⟨HL.out, fun j hj => by omega⟩, by rw [set_same HP.out]; exact HTR⟩
      case round =>
        obtain ⟨k, r2, rfl, hk, HF, HTK⟩ := hrel
        clear HTR hcell
        have HPK : Hid ((rw2.set t (.slice ra L rc, r2))[t]? = some (.slice ra L rc, r2)) := by
          show _ = _
          rw [List.getElem?_set_self (by rw [HIR.out.n]; exact hlt)]
        obtain ⟨gl', ra', rc', hla, hV, hcell, -, -, -, hat⟩ := HTK.out.atI HPK.out
        cases hla
        have e1 := (Value.slice.inj hV).1
        subst e1
        clear hV
        by_cases hltk : k < L
        · have hltk' : (k : Int) < (L : Int) := by omega
          obtain ⟨x, hx⟩ : ∃ x, r2[k]? = some x := ⟨_, List.getElem?_eq_getElem (by rw [HF.out.1]; exact hltk)⟩
          obtain ⟨g, hg, hc2, hf2⟩ := hat k x hx
          subst hg
          clear hx hat
          go_wp2
          go_roundw
          case rel => exact ⟨k + 1, r2.set k (-1000 - (t : Int)), by go_num, by omega, HF.out.step hltk, by have := HTK.out.putI HPK.out k (-1000 - (t : Int)); rw [List.set_set] at this; exact this⟩
          case measure => simp [intOf]; omega
        · have hltk' : ¬ (k : Int) < (L : Int) := by omega
          have hkl : k = L := by omega
          have HFA : Hid (∀ z ∈ r2, z = -1000 - (t : Int)) := by
            have h := HF.out
            rw [hkl] at h
            exact h.all
          have HLR : Hid (r2.length ≤ 4096) := by show _ ≤ _; rw [HF.out.1]; exact hL4
          clear hat hkl
          go_wp2
          go_roundw
          case rel => exact ⟨t + 1, rw2.set t (.slice ra L rc, r2), by go_num, by omega, HIR.out.step HFA.out HLR.out hlt, HTK⟩
          case measure => simp [intOf]; omega
    · have hlt' : ¬ (t : Int) < (N : Int) := by omega
      have htn : t = N := by omega
      subst htn
      go_wp2_with fail
      refine HK.out _ _ ?_
      exact HX.out _ _ HTR.out HIR.out _ _ _ _ _ _ _ _ _ _ _ _ _ _ _ _ _ _ _ _ _ _ _ _ _ _ _ _ _ _ _ _ _ _ _ _ _ _ _ _ _ _ _ _ _ _ _ _ _ _ _ _ _ _ _ _ _ _ _ _ _ _ _ _ _ _ _ _ _ _ _ _ _ _ _ _ _ _ _ _ _ _ _ _ _ _ _ _ _ _ _ _ _ _ _ _ _ _ _ _ _ _ _ _ _ _ _ _ _ _ _ _ _ _ _ _ _ _ _ _ _ _ _ _ _ _ _ _ _ _ _ _ _ _ _ _ _ _ _ _ _ _ _ _ _ _ _ _ _ _ _ _ _ _ _ _ _ _ _ _ _ _ _ _ _ _ _ _ _ _ _ _ _ _ _ _ _ _ _ _ _ _ _ _ _ _ _ _ _ _ _ _ _ _ _ _ _ _ _ _ _ _ _ _ _ _ _ _ _ _ _ _ _ _ _ _ _ _ _ _ _ _ _ _ _ _ _ _ _ _ _ _ _ _ _ _ _ _ _ _ _ _ _ _ _ _ _ _ _ _ _ _ _ _ _ _ _ _ _ _ _ _ _ _ _ _ _ _ _ _ _ _ _ _ _ _ _ _ _ _ _ _ _ _ _ _ _ _ _ _ _ _ _ _ _ _ _ _ _ _ _ _ _ _ _ _ _ _ _ _ _ _ _ _ _ _ _ _ _ _ _ _ _ _ _ _ _ _ _ _ _ 
end Go.Proofs.YtdngileimmgdnaaDoor

/- the words bear their marks -/
namespace Go.Proofs.YtdngileimmgdnaaDoor
open Go Go.RowKit
attribute [local go_sem ↓] Go.wp_at_zero Go.wp_at_succ

set_option maxRecDepth 20000 in
set_option maxHeartbeats 16000000 in
theorem tail17 {Q : Exit → Act → World → Prop} {w3 u : World} {ns : List (Value × List Value)} {lv : Value} {ws : List (Value × List Nat)} {rows : List (Value × List Int)} {mine : Rw} {sa : Option Addr} {wa : Option Addr}
    (H : Hid (Td w3 u ns lv (ws) rows mine (.slice sa 2 2) (.slice wa 4 4))) (HI : Hid (ShW 4096 0 ws))
    (next : ∀ u2 ws2, Td w3 u2 ns lv (ws2) rows mine (.slice sa 2 2) (.slice wa 4 4) → ShW 4096 4 ws2 → Gd tl18 Q (.slice sa 2 2) lv (.slice wa 4 4) u2) : Gd tl17 Q (.slice sa 2 2) lv (.slice wa 4 4) u := by
  unfold Gd
  intro s0 s1 s2 s3 s4 s5 s6 s7 s8 s9 s10 s11 s12 s13 s14 s18 s19 s20 s21 s22 s23 s24 s25 s26 s27 s28 s29 s30 s31 s32 s33 s34 s35 s36 s37 s38 s39 s40 s41 s42 s43 s44 s45 s46 s47 s48 s49 s50 s51 s52 s53 s54 s55 s56 s57 s58 s59 s60 s61 s62 s63 s64 s65 s66 s67 s68 s69 s70 s71 s72 s73 s74 s75 s76 s77 s78 s79 s80 s81 s82 s83 s84 s85 s86 s87 s88 s89 s90 s91 s92 s93 s94 s95 s96 s97 s98 s99 s100 s101 s102 s103 s104 s105 s106 s107 s108 s109 s110 s111 s112 s113 s114 s115 s116 s117 s118 s119 s120 s121 s122 s123 s124 s125 s126 s127 s128 s129 s130 s131 s132 s133 s134 s135 s136 s137 s138 s139 s140 s141 s142 s143 s144 s145 s146 s147 s148 s149 s150 s151 s152 s153 s154 s155 s156 s157 s158 s159 s160 s161 s162 s163 s164 s165 s166 s167 s168 s169 s170 s171 s172 s173 s174 s175 s176 s177 s178 s179 s180 s181 s182 s183 s184 s185 s186 s187 s188 s189 s190 s191 s192 s193 s194 s195 s196 s197 s198 s199 s200 s201 s202 s203 s204 s205 s206 s207 s208 s209 s210 s211 s212 s213 s214 s215 s216 s217 s218 s219 s220 s221 s222 s223 s224 s225 s226 s227 s228 s229 s230 s231 s232 s233 s234 s235 s236 s237 s238 s239 s240 s241 s242 s243 s244 s245 s246 s247 s248 s249 s250 s251 s252 s253 s254 s255 s256 s257 s258 s259 s260 s261 s262 s263 s264 s265 s266 s267 s268 s269 s270 s271 s272 s273 s274 s275 s276 s277 s278 s279 s280 s281 s282 s283 s284 s285 s286 s287 s288 s289 s290 s291 s292 s293 s294 s295 s296 s297 s298 s299 s300 s301 s302 s303 s304 s305 s306 s307 s308 s309 s310 s311 s312 s313 s314 s315 s316 s317 s318 s319 s320 s321 s322 s323 s324 s325 s326 s327 s328 s329 s330 s331 s332 s333
  conv => arg 2; whnf
  apply wp_seq_k
  intro K hK
  have HK : Hid (∀ a w, _ → K a w) := hK
  have HX : Hid _ := next
  clear hK next
  go_wp2_with fail
  go_loopw [183] (fun i u2 => ∃ (t : Nat) (rw2 : List (Value × List Nat)), i = .int .i64 (t : Nat) ∧ t ≤ 4 ∧ Hid (ShW 4096 t rw2) ∧ Hid (Td w3 u2 ns lv (rw2) rows mine (.slice sa 2 2) (.slice wa 4 4))) (fun i _ => 4 - (intOf i).toNat)
  case atStart => exact ⟨0, ws, rfl, by omega, HI, H⟩
  case round =>
    obtain ⟨t, rw2, rfl, ht, HIR, HTR⟩ := hrel
    clear H HI
    by_cases hlt : t < 4
    · have hlt' : (t : Int) < 4 := by omega
      obtain ⟨p, hp⟩ : ∃ p, rw2[t]? = some p := ⟨_, List.getElem?_eq_getElem (by rw [HIR.out.n]; exact hlt)⟩
      obtain ⟨V, r⟩ := p
      obtain ⟨gl, ra, rc, hla, hV, hcell, -, hrc, hrm, -⟩ := HTR.out.atW hp
      obtain ⟨L, hL⟩ : ∃ L, r.length = L := ⟨_, rfl⟩
      rw [hL] at hV hrc
      have hL4 : L ≤ 4096 := by rw [← hL]; exact HIR.out.c _ (List.mem_of_getElem? hp)
      have HP : Hid (rw2[t]? = some (V, r)) := hp
      have HL : Hid (r.length = L) := hL
      subst hla hV
      clear hp hL
      obtain ⟨m, hm⟩ : ∃ m, 1000 + t = m := ⟨_, rfl⟩
      have HM : Hid (1000 + t = m) := hm
      have hmi : (1000 : Int) + (t : Int) = (m : Int) := by omega
      have hmm : (m : Int) % 4294967296 = (m : Int) := by omega
      clear hm
      go_wp2
      go_loopw [191] (fun i u2 => ∃ (k : Nat) (r2 : List Nat), i = .int .i64 (k : Nat) ∧ k ≤ L ∧ Hid (Fl (m) k L r2) ∧ Hid (Td w3 u2 ns lv (rw2.set t (.slice ra L rc, r2)) rows mine (.slice sa 2 2) (.slice (some ⟨gl, 0, none⟩) 4 4))) (fun i _ => L - (intOf i).toNat)
      case atStart => exact ⟨0, r, rfl, by omega, ⟨HL.out, fun j hj => by omega⟩, by rw [set_same HP.out]; exact HTR⟩
      case round =>
        obtain ⟨k, r2, rfl, hk, HF, HTK⟩ := hrel
        clear HTR hcell
        have HPK : Hid ((rw2.set t (.slice ra L rc, r2))[t]? = some (.slice ra L rc, r2)) := by
          show _ = _
          rw [List.getElem?_set_self (by rw [HIR.out.n]; exact hlt)]
        obtain ⟨gl', ra', rc', hla, hV, hcell, -, -, -, hat⟩ := HTK.out.atW HPK.out
        cases hla
        have e1 := (Value.slice.inj hV).1
        subst e1
        clear hV
        by_cases hltk : k < L
        · have hltk' : (k : Int) < (L : Int) := by omega
          obtain ⟨x, hx⟩ : ∃ x, r2[k]? = some x := ⟨_, List.getElem?_eq_getElem (by rw [HF.out.1]; exact hltk)⟩
          obtain ⟨g, hg, hc2, hf2⟩ := hat k x hx
          subst hg
          clear hx hat
          go_wp2
          go_roundw
          case rel => exact ⟨k + 1, r2.set k (m), by go_num, by omega, HF.out.step hltk, by have := HTK.out.putW HPK.out k (m); rw [List.set_set] at this; exact this⟩
          case measure => simp [intOf]; omega
        · have hltk' : ¬ (k : Int) < (L : Int) := by omega
          have hkl : k = L := by omega
          have HFA : Hid (∀ z ∈ r2, z = 1000 + t) := by
            have h := HF.out
            rw [hkl] at h
            exact fun z hz => (h.all z hz).trans HM.out.symm
          have HLR : Hid (r2.length ≤ 4096) := by show _ ≤ _; rw [HF.out.1]; exact hL4
          clear hat hkl
          go_wp2
          go_roundw
          case rel => exact ⟨t + 1, rw2.set t (.slice ra L rc, r2), by go_num, by omega, HIR.out.step HFA.out HLR.out hlt, HTK⟩
          case measure => simp [intOf]; omega
    · have hlt' : ¬ (t : Int) < 4 := by omega
      have htn : t = 4 := by omega
      subst htn
      go_wp2_with fail
      refine HK.out _ _ ?_
      exact HX.out _ _ HTR.out HIR.out _ _ _ _ _ _ _ _ _ _ _ _ _ _ _ _ _ _ _ _ _ _ _ _ _ _ _ _ _ _ _ _ _ _ _ _ _ _ _ _ _ _ _ _ _ _ _ _ _ _ _ _ _ _ _ _ _ _ _ _ _ _ _ _ _ _ _ _ _ _ _ _ _ _ _ _ _ _ _ _ _ _ _ _ _ _ _ _ _ _ _ _ _ _ _ _ _ _ _ _ _ _ _ _ _ _ _ _ _ _ _ _ _ _ _ _ _ _ _ _ _ _ _ _ _ _ _ _ _ _ _ _ _ _ _ _ _ _ _ _ _ _ _ _ _ _ _ _ _ _ _ _ _ _ _ _ _ _ _ _ _ _ _ _ _ _ _ _ _ _ _ _ _ _ _ _ _ _ _ _ _ _ _ _ _ _ _ _ _ _ _ _ _ _ _ _ _ _ _ _ _ _ _ _ _ _ _ _ _ _ _ _ _ _ _ _ _ _ _ _ _ _ _ _ _ _ _ _ _ _ _ _ _ _ _ _ _ _ _ _ _ _ _ _ _ _ _ _ _ _ _ _ _ _ _ _ _ _ _ _ _ _ _ _ _ _ _ _ _ _ _ _ _ _ _ _ _ _ _ _ _ _ _ _ _ _ _ _ _ _ _ _ _ _ _ _ _ _ _ _ _ _ _ _ _ _ _ _ _ _ _ _ _ _ _ _ _ _ _ _ _ _ _ _ _ _ _ _ _ _ _ 
end Go.Proofs.YtdngileimmgdnaaDoor

/- all rows bear their marks -/
namespace Go.Proofs.YtdngileimmgdnaaDoor
open Go Go.RowKit
attribute [local go_sem ↓] Go.wp_at_zero Go.wp_at_succ

set_option maxRecDepth 20000 in
set_option maxHeartbeats 16000000 in
theorem tail18 {Q : Exit → Act → World → Prop} {w3 u : World} {ns : List (Value × List Value)} {lv : Value} {N : Nat} {ws : List (Value × List Nat)} {rows : List (Value × List Int)} {mine : Rw} {rsv wv : Value}
    (H : Hid (Td w3 u ns lv ws rows mine rsv wv)) (HI : Hid (ShI N 4096 N rows)) (HW : Hid (ShW 4096 4 ws)) (hN : N ≤ 8192)
    (next : Gd tl19 Q rsv lv wv u) : Gd tl18 Q rsv lv wv u := by
  have HO : Hid (Calls Tryd.prog 21 #[lv, wv] u fun e w2 => e = .returned (.bool true) ∧ w2 = u) := own_td H.out HI.out HW.out (by decide) hN
  unfold Gd
  intro s0 s1 s2 s3 s4 s5 s6 s7 s8 s9 s10 s11 s12 s13 s14 s18 s19 s20 s21 s22 s23 s24 s25 s26 s27 s28 s29 s30 s31 s32 s33 s34 s35 s36 s37 s38 s39 s40 s41 s42 s43 s44 s45 s46 s47 s48 s49 s50 s51 s52 s53 s54 s55 s56 s57 s58 s59 s60 s61 s62 s63 s64 s65 s66 s67 s68 s69 s70 s71 s72 s73 s74 s75 s76 s77 s78 s79 s80 s81 s82 s83 s84 s85 s86 s87 s88 s89 s90 s91 s92 s93 s94 s95 s96 s97 s98 s99 s100 s101 s102 s103 s104 s105 s106 s107 s108 s109 s110 s111 s112 s113 s114 s115 s116 s117 s118 s119 s120 s121 s122 s123 s124 s125 s126 s127 s128 s129 s130 s131 s132 s133 s134 s135 s136 s137 s138 s139 s140 s141 s142 s143 s144 s145 s146 s147 s148 s149 s150 s151 s152 s153 s154 s155 s156 s157 s158 s159 s160 s161 s162 s163 s164 s165 s166 s167 s168 s169 s170 s171 s172 s173 s174 s175 s176 s177 s178 s179 s180 s181 s182 s183 s184 s185 s186 s187 s188 s189 s190 s191 s192 s193 s194 s195 s196 s197 s198 s199 s200 s201 s202 s203 s204 s205 s206 s207 s208 s209 s210 s211 s212 s213 s214 s215 s216 s217 s218 s219 s220 s221 s222 s223 s224 s225 s226 s227 s228 s229 s230 s231 s232 s233 s234 s235 s236 s237 s238 s239 s240 s241 s242 s243 s244 s245 s246 s247 s248 s249 s250 s251 s252 s253 s254 s255 s256 s257 s258 s259 s260 s261 s262 s263 s264 s265 s266 s267 s268 s269 s270 s271 s272 s273 s274 s275 s276 s277 s278 s279 s280 s281 s282 s283 s284 s285 s286 s287 s288 s289 s290 s291 s292 s293 s294 s295 s296 s297 s298 s299 s300 s301 s302 s303 s304 s305 s306 s307 s308 s309 s310 s311 s312 s313 s314 s315 s316 s317 s318 s319 s320 s321 s322 s323 s324 s325 s326 s327 s328 s329 s330 s331 s332 s333
  conv => arg 2; whnf
  apply wp_seq_k
  intro K hK
  have HK : Hid (∀ a w, _ → K a w) := hK
  have HX : Hid _ := next
  clear hK next
  go_wp2_with fail
  refine HO.out.mono ?_
  rintro e w2 ⟨rfl, hw⟩
  have HE : Hid (w2 = u) := hw
  clear hw
  dsimp only
  go_wp2_with fail
  refine HK.out _ _ ?_
  rw [HE.out]
  exact HX.out _ _ _ _ _ _ _ _ _ _ _ _ _ _ _ _ _ _ _ _ _ _ _ _ _ _ _ _ _ _ _ _ _ _ _ _ _ _ _ _ _ _ _ _ _ _ _ _ _ _ _ _ _ _ _ _ _ _ _ _ _ _ _ _ _ _ _ _ _ _ _ _ _ _ _ _ _ _ _ _ _ _ _ _ _ _ _ _ _ _ _ _ _ _ _ _ _ _ _ _ _ _ _ _ _ _ _ _ _ _ _ _ _ _ _ _ _ _ _ _ _ _ _ _ _ _ _ _ _ _ _ _ _ _ _ _ _ _ _ _ _ _ _ _ _ _ _ _ _ _ _ _ _ _ _ _ _ _ _ _ _ _ _ _ _ _ _ _ _ _ _ _ _ _ _ _ _ _ _ _ _ _ _ _ _ _ _ _ _ _ _ _ _ _ _ _ _ _ _ _ _ _ _ _ _ _ _ _ _ _ _ _ _ _ _ _ _ _ _ _ _ _ _ _ _ _ _ _ _ _ _ _ _ _ _ _ _ _ _ _ _ _ _ _ _ _ _ _ _ _ _ _ _ _ _ _ _ _ _ _ _ _ _ _ _ _ _ _ _ _ _ _ _ _ _ _ _ _ _ _ _ _ _ _ _ _ _ _ _ _ _ _ _ _ _ _ _ _ _ _ _ _ _ _ _ _ _ _ _ _ _ _ _ _ _ _ _ _ _ _ _ _ _ _ _ _ _ _ _ _ _ 
end Go.Proofs.YtdngileimmgdnaaDoor

/- TableDecodes: l[i] = append(l[i], ..) done. -/
namespace Go.Proofs.YtdngileimmgdnaaDoor
open Go Go.RowKit

section
variable {w3 u v : World} {ns : List (Value × List Value)} {lv : Value} {ws : List (Value × List Nat)} {rows : List (Value × List Int)} {mine : Rw} {rsv wv : Value}
theorem Td.fdI {V : Value} {r : List Int} {t : Nat} (_h : Td w3 u ns lv ws rows mine rsv wv) (hp : rows[t]? = some (V, r)) : fd (ns ++ [(lv, rows.map Prod.fst)]) ws rows [mine, (23, rsv, ns.map Prod.fst), (24, wv, ws.map Prod.fst)] (4 * t + 2) = some (3, V, ints r) := by rw [fd2, hp]; rfl
theorem Td.fdW {V : Value} {r : List Nat} {t : Nat} (_h : Td w3 u ns lv ws rows mine rsv wv) (hp : ws[t]? = some (V, r)) : fd (ns ++ [(lv, rows.map Prod.fst)]) ws rows [mine, (23, rsv, ns.map Prod.fst), (24, wv, ws.map Prod.fst)] (4 * t + 1) = some (27, V, u32s r) := by rw [fd1, hp]; rfl
theorem Td.fdN {V : Value} {r : List Value} {t : Nat} (_h : Td w3 u ns lv ws rows mine rsv wv) (hp : ns[t]? = some (V, r)) : fd (ns ++ [(lv, rows.map Prod.fst)]) ws rows [mine, (23, rsv, ns.map Prod.fst), (24, wv, ws.map Prod.fst)] (4 * t) = some (41, V, r) := by rw [fd0, List.getElem?_append_left (List.getElem?_eq_some_iff.1 hp).1, hp]; rfl
theorem appI_done {gl N c t : Nat} {V V' : Value} {r r' : List Int} (h : Td w3 u ns (.slice (some ⟨gl, 0, none⟩) N c) ws rows mine rsv wv) (hp : rows[t]? = some (V, r)) (hf : Fam w3.heap.size v (upd (fd (ns ++ [(.slice (some ⟨gl, 0, none⟩) N c, rows.map Prod.fst)]) ws rows [mine, (23, rsv, ns.map Prod.fst), (24, wv, ws.map Prod.fst)]) (4 * t + 2) (3, V', ints r'))) (hg : u.grownBy v V.ownBlock) :
    (∃ a n c', V' = .slice a n c') ∧ v.cell? ⟨gl, t, none⟩ = some V ∧ v.frozen? ⟨gl, t, none⟩ = false ∧ Td w3 (v.setCell ⟨gl, t, none⟩ V') ns (.slice (some ⟨gl, 0, none⟩) N c) ws (rows.set t (V', r')) mine rsv wv := by
  have ho := hf.own (4 * 2) 41 (.slice (some ⟨gl, 0, none⟩) N c) (rows.map Prod.fst) (by rw [upd_ne _ _ (by omega), fd0, ← h.two]; simp)
  obtain ⟨_, g, eg, _, _, hc, hfr⟩ := row_cell ho (k := t) (x := V) (by rw [List.getElem?_map, hp]; rfl)
  cases eg
  obtain ⟨a, c', e, _, _⟩ := own_f (hf.own (4 * t + 2) _ _ _ (upd_at _ _ _))
  exact ⟨⟨a, _, c', e⟩, hc, hfr, td_appI hf (h.low.grown hg h.low.size (fun k hk => (own_at (h.ownR hp) k hk).1)) h.two (List.getElem?_eq_some_iff.1 hp).1⟩
theorem appW_done {gw N c t : Nat} {V V' : Value} {r r' : List Nat} (h : Td w3 u ns lv ws rows mine rsv (.slice (some ⟨gw, 0, none⟩) N c)) (hp : ws[t]? = some (V, r)) (hf : Fam w3.heap.size v (upd (fd (ns ++ [(lv, rows.map Prod.fst)]) ws rows [mine, (23, rsv, ns.map Prod.fst), (24, .slice (some ⟨gw, 0, none⟩) N c, ws.map Prod.fst)]) (4 * t + 1) (27, V', u32s r'))) (hg : u.grownBy v V.ownBlock) :
    (∃ a n c', V' = .slice a n c') ∧ v.cell? ⟨gw, t, none⟩ = some V ∧ v.frozen? ⟨gw, t, none⟩ = false ∧ Td w3 (v.setCell ⟨gw, t, none⟩ V') ns lv (ws.set t (V', r')) rows mine rsv (.slice (some ⟨gw, 0, none⟩) N c) := by
  have ho := hf.own (4 * 2 + 3) _ _ _ (by rw [upd_ne _ _ (by omega), fd3]; rfl)
  obtain ⟨_, g, eg, _, _, hc, hfr⟩ := row_cell ho (k := t) (x := V) (by rw [List.getElem?_map, hp]; rfl)
  cases eg
  obtain ⟨a, c', e, _, _⟩ := own_f (hf.own (4 * t + 1) _ _ _ (upd_at _ _ _))
  exact ⟨⟨a, _, c', e⟩, hc, hfr, td_appW hf (h.low.grown hg h.low.size (fun k hk => (own_at (h.ownW hp) k hk).1)) h.two (List.getElem?_eq_some_iff.1 hp).1⟩
theorem appN_done {gs N c t : Nat} {V V' : Value} {r r' : List Value} (h : Td w3 u ns lv ws rows mine (.slice (some ⟨gs, 0, none⟩) N c) wv) (hp : ns[t]? = some (V, r)) (hf : Fam w3.heap.size v (upd (fd (ns ++ [(lv, rows.map Prod.fst)]) ws rows [mine, (23, .slice (some ⟨gs, 0, none⟩) N c, ns.map Prod.fst), (24, wv, ws.map Prod.fst)]) (4 * t) (41, V', r'))) (hg : u.grownBy v V.ownBlock) :
    (∃ a n c', V' = .slice a n c') ∧ v.cell? ⟨gs, t, none⟩ = some V ∧ v.frozen? ⟨gs, t, none⟩ = false ∧ TyB v 23 gs ∧ Td w3 (v.setCell ⟨gs, t, none⟩ V') (ns.set t (V', r')) lv ws rows mine (.slice (some ⟨gs, 0, none⟩) N c) wv := by
  have ho := hf.own (4 * 1 + 3) _ _ _ (by rw [upd_ne _ _ (by omega), fd3]; rfl)
  obtain ⟨_, g, eg, _, hty, hc, hfr⟩ := row_cell ho (k := t) (x := V) (by rw [List.getElem?_map, hp]; rfl)
  cases eg
  obtain ⟨a, c', e, _, _⟩ := own_f (hf.own (4 * t) _ _ _ (upd_at _ _ _))
  exact ⟨⟨a, _, c', e⟩, hc, hfr, hty, td_appN hf (h.low.grown hg h.low.size (fun k hk => (own_at (h.ownN hp) k hk).1)) h.two (List.getElem?_eq_some_iff.1 hp).1⟩
end
/-- all marked; the rows from t on are still short -/
structure AfI (N t : Nat) (rows : List (Value × List Int)) : Prop where
  sh : ShI N 4099 N rows
  lo : ∀ (s : Nat) (p : Value × List Int), t ≤ s → rows[s]? = some p → p.2.length ≤ 4096
structure AfW (t : Nat) (ws : List (Value × List Nat)) : Prop where
  sh : ShW 4099 4 ws
  lo : ∀ (s : Nat) (p : Value × List Nat), t ≤ s → ws[s]? = some p → p.2.length ≤ 4096
theorem AfI.start {N : Nat} {rows : List (Value × List Int)} (h : ShI N 4096 N rows) : AfI N 0 rows := ⟨⟨h.n, fun p hp => by have := h.c p hp; omega, h.m⟩, fun s p _ hp => h.c p (List.mem_of_getElem? hp)⟩
theorem AfW.start {ws : List (Value × List Nat)} (h : ShW 4096 4 ws) : AfW 0 ws := ⟨⟨h.n, fun p hp => by have := h.c p hp; omega, h.m⟩, fun s p _ hp => h.c p (List.mem_of_getElem? hp)⟩
theorem AfI.step {N t : Nat} {rows : List (Value × List Int)} (h : AfI N t rows) {V : Value} {r : List Int} (hr : ∀ z ∈ r, z = -1000 - (t : Int)) (hl : r.length ≤ 4099) (ht : t < N) : AfI N (t + 1) (rows.set t (V, r)) := by
  refine ⟨⟨by rw [List.length_set]; exact h.sh.n, fun p hp => ?_, fun s p hs hp => ?_⟩, fun s p hs hp => ?_⟩
  · rcases List.mem_or_eq_of_mem_set hp with h' | h'
    · exact h.sh.c p h'
    · rw [h']; exact hl
  · by_cases e : s = t
    · subst e
      rw [List.getElem?_set_self (by rw [h.sh.n]; exact ht)] at hp
      cases hp
      exact hr
    · rw [List.getElem?_set_ne (by omega)] at hp
      exact h.sh.m s p (by omega) hp
  · rw [List.getElem?_set_ne (by omega)] at hp
    exact h.lo s p (by omega) hp
theorem AfW.step {t : Nat} {ws : List (Value × List Nat)} (h : AfW t ws) {V : Value} {r : List Nat} (hr : ∀ z ∈ r, z = 1000 + t) (hl : r.length ≤ 4099) (ht : t < 4) : AfW (t + 1) (ws.set t (V, r)) := by
  refine ⟨⟨by rw [List.length_set]; exact h.sh.n, fun p hp => ?_, fun s p hs hp => ?_⟩, fun s p hs hp => ?_⟩
  · rcases List.mem_or_eq_of_mem_set hp with h' | h'
    · exact h.sh.c p h'
    · rw [h']; exact hl
  · by_cases e : s = t
    · subst e
      rw [List.getElem?_set_self (by rw [h.sh.n]; exact ht)] at hp
      cases hp
      exact hr
    · rw [List.getElem?_set_ne (by omega)] at hp
      exact h.sh.m s p (by omega) hp
  · rw [List.getElem?_set_ne (by omega)] at hp
    exact h.lo s p (by omega) hp
end Go.Proofs.YtdngileimmgdnaaDoor

/- three numbers more at each row -/
namespace Go.Proofs.YtdngileimmgdnaaDoor
open Go Go.RowKit
attribute [local go_sem ↓] Go.wp_at_zero Go.wp_at_succ

set_option maxRecDepth 20000 in
set_option maxHeartbeats 16000000 in
theorem tail19 {Q : Exit → Act → World → Prop} {w3 u : World} {ns : List (Value × List Value)} {la : Option Addr} {N lc : Nat} {ws : List (Value × List Nat)} {rows : List (Value × List Int)} {mine : Rw} {sa : Option Addr} {wv : Value}
    (H : Hid (Td w3 u ns (.slice la N lc) ws (rows) mine (.slice sa 2 2) wv)) (HI : Hid (AfI N 0 rows)) (hN : N ≤ 8192)
    (next : ∀ u2 rows2, Td w3 u2 ns (.slice la N lc) ws (rows2) mine (.slice sa 2 2) wv → AfI N N rows2 → Gd tl20 Q (.slice sa 2 2) (.slice la N lc) wv u2) : Gd tl19 Q (.slice sa 2 2) (.slice la N lc) wv u := by
  unfold Gd
  intro s0 s1 s2 s3 s4 s5 s6 s7 s8 s9 s10 s11 s12 s13 s14 s18 s19 s20 s21 s22 s23 s24 s25 s26 s27 s28 s29 s30 s31 s32 s33 s34 s35 s36 s37 s38 s39 s40 s41 s42 s43 s44 s45 s46 s47 s48 s49 s50 s51 s52 s53 s54 s55 s56 s57 s58 s59 s60 s61 s62 s63 s64 s65 s66 s67 s68 s69 s70 s71 s72 s73 s74 s75 s76 s77 s78 s79 s80 s81 s82 s83 s84 s85 s86 s87 s88 s89 s90 s91 s92 s93 s94 s95 s96 s97 s98 s99 s100 s101 s102 s103 s104 s105 s106 s107 s108 s109 s110 s111 s112 s113 s114 s115 s116 s117 s118 s119 s120 s121 s122 s123 s124 s125 s126 s127 s128 s129 s130 s131 s132 s133 s134 s135 s136 s137 s138 s139 s140 s141 s142 s143 s144 s145 s146 s147 s148 s149 s150 s151 s152 s153 s154 s155 s156 s157 s158 s159 s160 s161 s162 s163 s164 s165 s166 s167 s168 s169 s170 s171 s172 s173 s174 s175 s176 s177 s178 s179 s180 s181 s182 s183 s184 s185 s186 s187 s188 s189 s190 s191 s192 s193 s194 s195 s196 s197 s198 s199 s200 s201 s202 s203 s204 s205 s206 s207 s208 s209 s210 s211 s212 s213 s214 s215 s216 s217 s218 s219 s220 s221 s222 s223 s224 s225 s226 s227 s228 s229 s230 s231 s232 s233 s234 s235 s236 s237 s238 s239 s240 s241 s242 s243 s244 s245 s246 s247 s248 s249 s250 s251 s252 s253 s254 s255 s256 s257 s258 s259 s260 s261 s262 s263 s264 s265 s266 s267 s268 s269 s270 s271 s272 s273 s274 s275 s276 s277 s278 s279 s280 s281 s282 s283 s284 s285 s286 s287 s288 s289 s290 s291 s292 s293 s294 s295 s296 s297 s298 s299 s300 s301 s302 s303 s304 s305 s306 s307 s308 s309 s310 s311 s312 s313 s314 s315 s316 s317 s318 s319 s320 s321 s322 s323 s324 s325 s326 s327 s328 s329 s330 s331 s332 s333
  conv => arg 2; whnf
  apply wp_seq_k
  intro K hK
  have HK : Hid (∀ a w, _ → K a w) := hK
  have HX : Hid _ := next
  clear hK next
  go_wp2_with fail
  go_loopw [211] (fun i u2 => ∃ (t : Nat) (rw2 : List (Value × List Int)), i = .int .i64 (t : Nat) ∧ t ≤ N ∧ Hid (AfI N t rw2) ∧ Hid (Td w3 u2 ns (.slice la N lc) ws (rw2) mine (.slice sa 2 2) wv)) (fun i _ => N - (intOf i).toNat)
  case atStart => exact ⟨0, rows, rfl, by omega, HI, H⟩
  case round =>
    obtain ⟨t, rw2, rfl, ht, HIR, HTR⟩ := hrel
    clear H HI
    by_cases hlt : t < N
    · have hlt' : (t : Int) < (N : Int) := by omega
      obtain ⟨p, hp⟩ : ∃ p, rw2[t]? = some p := ⟨_, List.getElem?_eq_getElem (by rw [HIR.out.sh.n]; exact hlt)⟩
      obtain ⟨V, r⟩ := p
      have HP : Hid (rw2[t]? = some (V, r)) := hp
      have HLO : Hid (r.length ≤ 4096 ∧ ∀ z ∈ r, z = -1000 - (t : Int)) := ⟨HIR.out.lo t _ (Nat.le_refl _) hp, HIR.out.sh.m t _ hlt hp⟩
      clear hp
      go_wp2
      go_loopw [214] (fun i u2 => ∃ (k : Nat) (V2 : Value) (r2 : List Int), i = .int .i64 (k : Nat) ∧ k ≤ 3 ∧ Hid (r2.length ≤ 4096 + k ∧ ∀ z ∈ r2, z = -1000 - (t : Int)) ∧ Hid (Td w3 u2 ns (.slice la N lc) ws (rw2.set t (V2, r2)) mine (.slice sa 2 2) wv)) (fun i _ => 3 - (intOf i).toNat)
      case atStart => exact ⟨0, V, r, rfl, by omega, HLO, by rw [set_same HP.out]; exact HTR⟩
      case round =>
        obtain ⟨k, V2, r2, rfl, hk, HF, HTK⟩ := hrel
        clear HTR
        by_cases hltk : k < 3
        · have hltk' : (k : Int) < 3 := by omega
          have HPK : Hid ((rw2.set t (V2, r2))[t]? = some (V2, r2)) := by
            show _ = _
            rw [List.getElem?_set_self (by rw [HIR.out.sh.n]; exact hlt)]
          obtain ⟨gl, ra, rc, hla, hV, hcell, -, -, -, -⟩ := HTK.out.atI HPK.out
          subst hla hV
          have HAL : Hid (∀ ob : Obj, Below wr.heap.size wr (wr.alloc ob)) := fun ob => (Below.refl _ _).alloc (Nat.le_refl _) _
          have HSZ : Hid (∀ ob : Obj, w3.heap.size ≤ (wr.alloc ob).heap.size) := fun ob => Nat.le_trans HTK.out.low.size (HAL.out ob).size
          go_wp2_with (at_builtin; refine wpList_append_famg rfl (.tmp 221) (.tmp 224) rfl (.int .i64 0) 8 Tryd.underlying41 infI rfl w3.heap.size _ ((HTK.out.later (HAL.out _)).fam) (HSZ.out _) (4 * t + 2) _ (ints r2) (HTK.out.fdI HPK.out) rfl _ [.int .i64 (-1000 - (t : Int))] rfl (lat_lit _ _ _ _) (fun y hy => by simp at hy; subst hy; rfl) (by rw [ints_len]; have := HF.out.1; simp; omega) (by decide) ?_; intro V3 w5 hf5 hg5 hn5; rw [ints_snoc] at hf5; obtain ⟨⟨a5, n5, c5, e5⟩, hq1, hq2, hq3⟩ := appI_done (HTK.out.later (HAL.out _)) HPK.out hf5 hg5; subst e5; rw [List.set_set] at hq3; have HQ : Hid (Td w3 (w5.setCell ⟨gl, t, none⟩ (.slice a5 n5 c5)) ns (.slice (some ⟨gl, 0, none⟩) N lc) ws (rw2.set t (.slice a5 n5 c5, r2 ++ [-1000 - (t : Int)])) mine (.slice sa 2 2) wv) := hq3; clear hf5 hg5 hn5 hq3)
          go_roundw
          case rel => exact ⟨k + 1, .slice a5 n5 c5, r2 ++ [-1000 - (t : Int)], by go_num, by omega, ⟨by have := HF.out.1; simp; omega, fun z hz => by
            rcases List.mem_append.1 hz with h | h
            · exact HF.out.2 z h
            · simp at h; exact h⟩, HQ⟩
          case measure => simp [intOf]; omega
        · have hltk' : ¬ (k : Int) < 3 := by omega
          have HLR : Hid (r2.length ≤ 4099) := by have := HF.out.1; show _ ≤ _; omega
          go_wp2
          go_roundw
          case rel => exact ⟨t + 1, rw2.set t (V2, r2), by go_num, by omega, HIR.out.step HF.out.2 HLR.out hlt, HTK⟩
          case measure => simp [intOf]; omega
    · have hlt' : ¬ (t : Int) < (N : Int) := by omega
      have htn : t = N := by omega
      subst htn
      go_wp2_with fail
      refine HK.out _ _ ?_
      exact HX.out _ _ HTR.out HIR.out _ _ _ _ _ _ _ _ _ _ _ _ _ _ _ _ _ _ _ _ _ _ _ _ _ _ _ _ _ _ _ _ _ _ _ _ _ _ _ _ _ _ _ _ _ _ _ _ _ _ _ _ _ _ _ _ _ _ _ _ _ _ _ _ _ _ _ _ _ _ _ _ _ _ _ _ _ _ _ _ _ _ _ _ _ _ _ _ _ _ _ _ _ _ _ _ _ _ _ _ _ _ _ _ _ _ _ _ _ _ _ _ _ _ _ _ _ _ _ _ _ _ _ _ _ _ _ _ _ _ _ _ _ _ _ _ _ _ _ _ _ _ _ _ _ _ _ _ _ _ _ _ _ _ _ _ _ _ _ _ _ _ _ _ _ _ _ _ _ _ _ _ _ _ _ _ _ _ _ _ _ _ _ _ _ _ _ _ _ _ _ _ _ _ _ _ _ _ _ _ _ _ _ _ _ _ _ _ _ _ _ _ _ _ _ _ _ _ _ _ _ _ _ _ _ _ _ _ _ _ _ _ _ _ _ _ _ _ _ _ _ _ _ _ _ _ _ _ _ _ _ _ _ _ _ _ _ _ _ _ _ _ _ _ _ _ _ _ _ _ _ _ _ _ _ _ _ _ _ _ _ _ _ _ _ _ _ _ _ _ _ _ _ _ _ _ _ _ _ _ _ _ _ _ _ _ _ _ _ _ _ _ _ _ _ _ _ _ _ _ _ _ _ _ _ _ _ _ _ _ _ 
end Go.Proofs.YtdngileimmgdnaaDoor
