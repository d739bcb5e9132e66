/- What TableDecodes' walk has until the lists are laid together. -/
import Derived.Test.YtdngileimmgdnaaDoorG33
import Derived.RegionTactic
namespace Go.Proofs.YtdngileimmgdnaaDoor
open Go Go.RowKit
attribute [local go_sem ↓] Go.wp_at_zero Go.wp_at_succ

/-- a row of bytes alone -/
theorem fam_mine {B : Nat} {u : World} {v : Value} {z : List Int} (h : u.ownsRow B 5 1 v z.length (cellsOf z)) : Fam B u (fd [] [] [] [(5, v, cellsOf z)]) := by
  have key : ∀ i t x xs, fd [] [] [] [(5, v, cellsOf z)] i = some (t, x, xs) → i = 3 ∧ t = 5 ∧ x = v ∧ xs = cellsOf z := fun i t x xs hh => by
    have c4 : i % 4 = 0 ∨ i % 4 = 1 ∨ i % 4 = 2 ∨ i % 4 = 3 := by omega
    obtain ⟨j, hj⟩ : ∃ j, j = i / 4 := ⟨_, rfl⟩
    rcases c4 with c | c | c | c
    · obtain rfl : i = 4 * j := by omega
      rw [fd0] at hh; simp at hh
    · obtain rfl : i = 4 * j + 1 := by omega
      rw [fd1] at hh; simp at hh
    · obtain rfl : i = 4 * j + 2 := by omega
      rw [fd2] at hh; simp at hh
    · obtain rfl : i = 4 * j + 3 := by omega
      rw [fd3] at hh
      cases j with
      | succ j => simp at hh
      | zero => simp at hh; exact ⟨rfl, hh.1.symm, hh.2.1.symm, hh.2.2.symm⟩
  refine ⟨fun i t x xs hh => ?_, fun i j t x xs t' x' xs' k h1 h2 _ _ => ?_⟩
  · obtain ⟨_, rfl, rfl, rfl⟩ := key i t x xs hh
    rw [cellsOf_length]; exact h
  · obtain ⟨rfl, _⟩ := key i _ _ _ h1
    obtain ⟨rfl, _⟩ := key j _ _ _ h2
    rfl
/-- no row is of a table's type -/
theorem fd_types {nxs : List (Value × List Value)} {ws : List (Value × List Nat)} {rows : List (Value × List Int)} {z : List Int} {v : Value} {i : Nat} {t : TypeId} {x : Value} {xs : List Value} (h : fd nxs ws rows [(5, v, cellsOf z)] i = some (t, x, xs)) : t ≠ 26 := by
  unfold fd at h
  split at h
  · cases hh : nxs[i / 4]? with
    | none => rw [hh] at h; simp at h
    | some p => rw [hh] at h; simp at h; rw [← h.1]; decide
  · split at h
    · cases hh : ws[i / 4]? with
      | none => rw [hh] at h; simp at h
      | some p => rw [hh] at h; simp at h; rw [← h.1]; decide
    · split at h
      · cases hh : rows[i / 4]? with
        | none => rw [hh] at h; simp at h
        | some p => rw [hh] at h; simp at h; rw [← h.1]; decide
      · cases hh : ([(5, v, cellsOf z)] : List Rw)[i / 4]? with
        | none => rw [hh] at h; simp at h
        | some p =>
          have := List.mem_of_getElem? hh
          simp at this
          subst this
          rw [hh] at h
          simp at h
          rw [← h.1]
          decide
/-- the state until the lists are laid together -/
structure Tp (w3 u : World) (P6 P8 : Nat) (x y : Dt) (X1 X2 X3 Y1 Y2 Y3 : Value) (Us Ws : List Value) (mv : Value) (mz : List Int) : Prop where
  fam : Fam w3.heap.size u (fd [(X1, Us), (Y1, Ws)] [(X2, x.fo), (X3, x.en), (Y2, y.fo), (Y3, y.en)] (Us.zip x.nx ++ Ws.zip y.nx) [(5, mv, cellsOf mz)])
  low : Below w3.heap.size w3 u
  db6 : DB u P6 x.cl X1 X2 X3
  db8 : DB u P8 y.cl Y1 Y2 Y3
  lu : Us.length = x.nx.length
  lw : Ws.length = y.nx.length
theorem Tp.later {w3 u v : World} {P6 P8 : Nat} {x y : Dt} {X1 X2 X3 Y1 Y2 Y3 : Value} {Us Ws : List Value} {mv : Value} {mz : List Int} (h : Tp w3 u P6 P8 x y X1 X2 X3 Y1 Y2 Y3 Us Ws mv mz) (hb : Below u.heap.size u v) : Tp w3 v P6 P8 x y X1 X2 X3 Y1 Y2 Y3 Us Ws mv mz := ⟨h.fam.later hb, below_step h.low hb, h.db6.later hb, h.db8.later hb, h.lu, h.lw⟩
theorem zip_at {Us : List Value} {R : List (List Int)} (hl : Us.length = R.length) {s : Nat} {U : Value} (h : Us[s]? = some U) : (Us.zip R)[s]? = some (U, R.getD s []) := by
  have hs := (List.getElem?_eq_some_iff.1 h).1
  rw [List.getElem?_zip_eq_some]
  exact ⟨h, by rw [List.getD_eq_getElem?_getD, List.getElem?_eq_getElem (by omega)]; rfl⟩
theorem Tp.dfx {w3 u : World} {P6 P8 : Nat} {x y : Dt} {X1 X2 X3 Y1 Y2 Y3 : Value} {Us Ws : List Value} {mv : Value} {mz : List Int} (h : Tp w3 u P6 P8 x y X1 X2 X3 Y1 Y2 Y3 Us Ws mv mz) (bf : ∀ z ∈ x.fo, z < 4294967296) (be : ∀ z ∈ x.en, z < 4294967296) : DfAt u x X1 X2 X3 Us := by
  refine ⟨owns_lat (h.fam.own (4 * 0) _ _ _ (by rw [fd0]; rfl)), h.lu, fun s U hU => ?_, owns_lat (h.fam.own (4 * 0 + 1) _ _ _ (by rw [fd1]; rfl)), owns_lat (h.fam.own (4 * 1 + 1) _ _ _ (by rw [fd1]; rfl)), bf, be⟩
  have hz := zip_at h.lu hU
  exact owns_lat (h.fam.own (4 * s + 2) 3 U (ints (x.row s)) (by rw [fd2, List.getElem?_append_left (List.getElem?_eq_some_iff.1 hz).1, hz]; rfl))
theorem Tp.mput {w3 u : World} {P6 P8 : Nat} {x y : Dt} {X1 X2 X3 Y1 Y2 Y3 : Value} {Us Ws : List Value} {g n c : Nat} {mz : List Int} (h : Tp w3 u P6 P8 x y X1 X2 X3 Y1 Y2 Y3 Us Ws (.slice (some ⟨g, 0, none⟩) n c) mz) (k : Nat) (z : Int) : Tp w3 (u.setCell ⟨g, k, none⟩ (.int .u8 z)) P6 P8 x y X1 X2 X3 Y1 Y2 Y3 Us Ws (.slice (some ⟨g, 0, none⟩) n c) (mz.set k z) := by
  have hi : fd [(X1, Us), (Y1, Ws)] [(X2, x.fo), (X3, x.en), (Y2, y.fo), (Y3, y.en)] (Us.zip x.nx ++ Ws.zip y.nx) [(5, .slice (some ⟨g, 0, none⟩) n c, cellsOf mz)] (4 * 0 + 3) = some (5, .slice (some ⟨g, 0, none⟩) n c, cellsOf mz) := by rw [fd3]; rfl
  have hg := own_at (h.fam.own _ _ _ _ hi) g rfl
  have hdb : ∀ {P : Nat} {f : Nat → Int} {A B C : Value}, DB u P f A B C → DB (u.setCell ⟨g, k, none⟩ (.int .u8 z)) P f A B C := fun {P f A B C} hd => hd.same (Below.heap_setCell u ⟨g, k, none⟩ _ P (fun e => by
    have e' : P = g := e
    have h1 := hg.2.2
    rw [← e'] at h1
    exact absurd (TyB.ne h1 hd.ty) (by decide)))
  refine ⟨?_, h.low.setCell (p := ⟨g, k, none⟩) hg.1 _, hdb h.db6, hdb h.db8, h.lu, h.lw⟩
  have := h.fam.put hi k (.int .u8 z)
  rw [cellsOf_set, fd_set3 _ _ _ _ (by simp)] at this
  exact this
/-- the lists laid together -/
theorem td_start {w3 u v v' v2 : World} {P6 P8 : Nat} {x y : Dt} {X1 X2 X3 Y1 Y2 Y3 : Value} {Us Ws : List Value} {mv : Value} {mz : List Int} (h : Tp w3 u P6 P8 x y X1 X2 X3 Y1 Y2 Y3 Us Ws mv mz) (hv : v = u.alloc (.cells #[X1, Y1] 23)) {lv : Value} (ho : v'.ownsRow v.heap.size 41 1 lv (Us ++ Ws).length (Us ++ Ws)) (hb : Below v.heap.size v v') (hv2 : v2 = v'.alloc (.cells #[X2, X3, Y2, Y3] 24)) :
    Td w3 v2 [(X1, Us), (Y1, Ws)] lv [(X2, x.fo), (X3, x.en), (Y2, y.fo), (Y3, y.en)] (Us.zip x.nx ++ Ws.zip y.nx) (5, mv, cellsOf mz) (.slice (some ⟨u.heap.size, 0, none⟩) 2 2) (.slice (some ⟨v'.heap.size, 0, none⟩) 4 4) := by
  have k1 : Below u.heap.size u v := by rw [hv]; exact (Below.refl _ _).alloc (Nat.le_refl _) _
  have k2 : Below v'.heap.size v' v2 := by rw [hv2]; exact (Below.refl _ _).alloc (Nat.le_refl _) _
  have f1 := h.fam.add k1 (i := 4 * 1 + 3) (t := 23) (x := .slice (some ⟨u.heap.size, 0, none⟩) 2 2) (xs := [X1, Y1]) (by rw [hv]; exact World.ownsRow_lit u #[X1, Y1] 2 (Nat.le_refl _) (by decide) rfl) h.low.size
  have e1 := fd_more3 [(X1, Us), (Y1, Ws)] [(X2, x.fo), (X3, x.en), (Y2, y.fo), (Y3, y.en)] (Us.zip x.nx ++ Ws.zip y.nx) [(5, mv, cellsOf mz)] (23, .slice (some ⟨u.heap.size, 0, none⟩) 2 2, [X1, Y1])
  simp only [List.length_cons, List.length_nil, Nat.zero_add] at e1
  rw [e1] at f1
  have hA1 : w3.heap.size ≤ v.heap.size := Nat.le_trans h.low.size k1.size
  have f2 := f1.add hb (i := 4 * 2) ho hA1
  have e2 := fd_more0 [(X1, Us), (Y1, Ws)] [(X2, x.fo), (X3, x.en), (Y2, y.fo), (Y3, y.en)] (Us.zip x.nx ++ Ws.zip y.nx) ([(5, mv, cellsOf mz)] ++ [(23, .slice (some ⟨u.heap.size, 0, none⟩) 2 2, [X1, Y1])]) lv (Us ++ Ws)
  simp only [List.length_cons, List.length_nil, Nat.zero_add, Nat.reduceAdd] at e2
  rw [e2] at f2
  have f3 := f2.add k2 (i := 4 * 2 + 3) (t := 24) (x := .slice (some ⟨v'.heap.size, 0, none⟩) 4 4) (xs := [X2, X3, Y2, Y3]) (by rw [hv2]; exact World.ownsRow_lit v' #[X2, X3, Y2, Y3] 4 (Nat.le_refl _) (by decide) rfl) (Nat.le_trans hA1 hb.size)
  have e3 := fd_more3 ([(X1, Us), (Y1, Ws)] ++ [(lv, Us ++ Ws)]) [(X2, x.fo), (X3, x.en), (Y2, y.fo), (Y3, y.en)] (Us.zip x.nx ++ Ws.zip y.nx) ([(5, mv, cellsOf mz)] ++ [(23, .slice (some ⟨u.heap.size, 0, none⟩) 2 2, [X1, Y1])]) (24, .slice (some ⟨v'.heap.size, 0, none⟩) 4 4, [X2, X3, Y2, Y3])
  simp only [List.length_append, List.length_cons, List.length_nil, Nat.zero_add, Nat.reduceAdd] at e3
  rw [e3] at f3
  refine ⟨?_, below_step (below_step (below_step h.low k1) hb) k2, rfl⟩
  have em : (Us.zip x.nx ++ Ws.zip y.nx).map Prod.fst = Us ++ Ws := by
    rw [List.map_append, List.map_fst_zip (by rw [h.lu]; exact Nat.le_refl _), List.map_fst_zip (by rw [h.lw]; exact Nat.le_refl _)]
  rw [em]
  exact f3
end Go.Proofs.YtdngileimmgdnaaDoor

/- The rest of TableDecodes' code. -/
namespace Go.Proofs.YtdngileimmgdnaaDoor
open Go Go.RowKit

/-- the code behind the first statement -/
def sq : Code → Code
  | .seq _ b => b
  | c => c
def cbody (f : Func) : Code := match f.body with
  | some c => c
  | none => .skip
/-- the code goes well at u, whatever the other slots hold -/
def Gd (c : Code) (Q : Exit → Act → World → Prop) (rsv lv wv : Value) (u : World) : Prop := ∀ (s0 s1 s2 s3 s4 s5 s6 s7 s8 s9 s10 s11 s12 s13 s14 s18 s19 s20 s21 s22 s23 s24 s25 s26 s27 s28 s29 s30 s31 s32 s33 s34 s35 s36 s37 s38 s39 s40 s41 s42 s43 s44 s45 s46 s47 s48 s49 s50 s51 s52 s53 s54 s55 s56 s57 s58 s59 s60 s61 s62 s63 s64 s65 s66 s67 s68 s69 s70 s71 s72 s73 s74 s75 s76 s77 s78 s79 s80 s81 s82 s83 s84 s85 s86 s87 s88 s89 s90 s91 s92 s93 s94 s95 s96 s97 s98 s99 s100 s101 s102 s103 s104 s105 s106 s107 s108 s109 s110 s111 s112 s113 s114 s115 s116 s117 s118 s119 s120 s121 s122 s123 s124 s125 s126 s127 s128 s129 s130 s131 s132 s133 s134 s135 s136 s137 s138 s139 s140 s141 s142 s143 s144 s145 s146 s147 s148 s149 s150 s151 s152 s153 s154 s155 s156 s157 s158 s159 s160 s161 s162 s163 s164 s165 s166 s167 s168 s169 s170 s171 s172 s173 s174 s175 s176 s177 s178 s179 s180 s181 s182 s183 s184 s185 s186 s187 s188 s189 s190 s191 s192 s193 s194 s195 s196 s197 s198 s199 s200 s201 s202 s203 s204 s205 s206 s207 s208 s209 s210 s211 s212 s213 s214 s215 s216 s217 s218 s219 s220 s221 s222 s223 s224 s225 s226 s227 s228 s229 s230 s231 s232 s233 s234 s235 s236 s237 s238 s239 s240 s241 s242 s243 s244 s245 s246 s247 s248 s249 s250 s251 s252 s253 s254 s255 s256 s257 s258 s259 s260 s261 s262 s263 s264 s265 s266 s267 s268 s269 s270 s271 s272 s273 s274 s275 s276 s277 s278 s279 s280 s281 s282 s283 s284 s285 s286 s287 s288 s289 s290 s291 s292 s293 s294 s295 s296 s297 s298 s299 s300 s301 s302 s303 s304 s305 s306 s307 s308 s309 s310 s311 s312 s313 s314 s315 s316 s317 s318 s319 s320 s321 s322 s323 s324 s325 s326 s327 s328 s329 s330 s331 s332 s333 : Value), c.wp Tryd.prog Q { tmps := #[s0, s1, s2, s3, s4, s5, s6, s7, s8, s9, s10, s11, s12, s13, s14, rsv, lv, wv, s18, s19, s20, s21, s22, s23, s24, s25, s26, s27, s28, s29, s30, s31, s32, s33, s34, s35, s36, s37, s38, s39, s40, s41, s42, s43, s44, s45, s46, s47, s48, s49, s50, s51, s52, s53, s54, s55, s56, s57, s58, s59, s60, s61, s62, s63, s64, s65, s66, s67, s68, s69, s70, s71, s72, s73, s74, s75, s76, s77, s78, s79, s80, s81, s82, s83, s84, s85, s86, s87, s88, s89, s90, s91, s92, s93, s94, s95, s96, s97, s98, s99, s100, s101, s102, s103, s104, s105, s106, s107, s108, s109, s110, s111, s112, s113, s114, s115, s116, s117, s118, s119, s120, s121, s122, s123, s124, s125, s126, s127, s128, s129, s130, s131, s132, s133, s134, s135, s136, s137, s138, s139, s140, s141, s142, s143, s144, s145, s146, s147, s148, s149, s150, s151, s152, s153, s154, s155, s156, s157, s158, s159, s160, s161, s162, s163, s164, s165, s166, s167, s168, s169, s170, s171, s172, s173, s174, s175, s176, s177, s178, s179, s180, s181, s182, s183, s184, s185, s186, s187, s188, s189, s190, s191, s192, s193, s194, s195, s196, s197, s198, s199, s200, s201, s202, s203, s204, s205, s206, s207, s208, s209, s210, s211, s212, s213, s214, s215, s216, s217, s218, s219, s220, s221, s222, s223, s224, s225, s226, s227, s228, s229, s230, s231, s232, s233, s234, s235, s236, s237, s238, s239, s240, s241, s242, s243, s244, s245, s246, s247, s248, s249, s250, s251, s252, s253, s254, s255, s256, s257, s258, s259, s260, s261, s262, s263, s264, s265, s266, s267, s268, s269, s270, s271, s272, s273, s274, s275, s276, s277, s278, s279, s280, s281, s282, s283, s284, s285, s286, s287, s288, s289, s290, s291, s292, s293, s294, s295, s296, s297, s298, s299, s300, s301, s302, s303, s304, s305, s306, s307, s308, s309, s310, s311, s312, s313, s314, s315, s316, s317, s318, s319, s320, s321, s322, s323, s324, s325, s326, s327, s328, s329, s330, s331, s332, s333], defers := [] } u
noncomputable abbrev tl16 : Code := (sq (sq (sq (sq (sq (sq (sq (sq (sq (sq (sq (sq (sq (sq (sq (sq (cbody Tryd.f6)))))))))))))))))
noncomputable abbrev tl17 : Code := (sq (sq (sq (sq (sq (sq (sq (sq (sq (sq (sq (sq (sq (sq (sq (sq (sq (cbody Tryd.f6))))))))))))))))))
noncomputable abbrev tl18 : Code := (sq (sq (sq (sq (sq (sq (sq (sq (sq (sq (sq (sq (sq (sq (sq (sq (sq (sq (cbody Tryd.f6)))))))))))))))))))
noncomputable abbrev tl19 : Code := (sq (sq (sq (sq (sq (sq (sq (sq (sq (sq (sq (sq (sq (sq (sq (sq (sq (sq (sq (cbody Tryd.f6))))))))))))))))))))
noncomputable abbrev tl20 : Code := (sq (sq (sq (sq (sq (sq (sq (sq (sq (sq (sq (sq (sq (sq (sq (sq (sq (sq (sq (sq (cbody Tryd.f6)))))))))))))))))))))
noncomputable abbrev tl21 : Code := (sq (sq (sq (sq (sq (sq (sq (sq (sq (sq (sq (sq (sq (sq (sq (sq (sq (sq (sq (sq (sq (cbody Tryd.f6))))))))))))))))))))))
noncomputable abbrev tl22 : Code := (sq (sq (sq (sq (sq (sq (sq (sq (sq (sq (sq (sq (sq (sq (sq (sq (sq (sq (sq (sq (sq (sq (cbody Tryd.f6)))))))))))))))))))))))
noncomputable abbrev tl23 : Code := (sq (sq (sq (sq (sq (sq (sq (sq (sq (sq (sq (sq (sq (sq (sq (sq (sq (sq (sq (sq (sq (sq (sq (cbody Tryd.f6))))))))))))))))))))))))
noncomputable abbrev tl24 : Code := (sq (sq (sq (sq (sq (sq (sq (sq (sq (sq (sq (sq (sq (sq (sq (sq (sq (sq (sq (sq (sq (sq (sq (sq (cbody Tryd.f6)))))))))))))))))))))))))
noncomputable abbrev tl25 : Code := (sq (sq (sq (sq (sq (sq (sq (sq (sq (sq (sq (sq (sq (sq (sq (sq (sq (sq (sq (sq (sq (sq (sq (sq (sq (cbody Tryd.f6))))))))))))))))))))))))))
end Go.Proofs.YtdngileimmgdnaaDoor
