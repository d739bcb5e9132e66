/- A pair's all: All twice; the one kept, the other written over. -/
import Derived.Test.YtclcpblpmfijiaaG15
namespace Go.Proofs.Ytclcpblpmfijiaa
open Go.RowKit Go.Maps Rg
attribute [local go_sem ↓] Go.wp_at_zero Go.wp_at_succ

theorem lat_lit' (w : World) {m : Nat} (hm : m = w.heap.size) (v : Value) (t : TypeId) (fr : Nat × Nat) : LAt (w.alloc (.cells #[v] t fr)) (.slice (some ⟨m, 0, none⟩) 1 1) [v] := by
  subst hm
  exact lat_lit w v t fr
theorem lat_lit2 (w : World) {m : Nat} (hm : m = w.heap.size) (v1 v2 : Value) (t : TypeId) (fr : Nat × Nat) : LAt (w.alloc (.cells #[v1, v2] t fr)) (.slice (some ⟨m, 0, none⟩) 2 2) [v1, v2] := by
  subst hm
  refine ⟨_, 2, rfl, Nat.le_refl _, by omega, .inr ⟨w.heap.size, 0, rfl, fun k x hx => ?_⟩⟩
  rw [World.cell?_alloc_mark]
  simpa using hx
theorem infS : (Try.prog.info? 43).map (fun i => (i.zero, i.size, i.bytes)) = some (some (.slice none 0 0), 1, 24) := by kernel_rfl
theorem own_base {u : World} {B B' : Nat} {e : TypeId} {V : Value} {n : Nat} {xs : List Value} (h : u.ownsRow B e 1 V n xs) (hb : B' ≤ B) : u.ownsRow B' e 1 V n xs := by
  refine ⟨h.1, ?_⟩
  rcases h.2 with h2 | ⟨g, cap, cur, e2, hBg, r⟩
  · exact .inl h2
  · exact .inr ⟨g, cap, cur, e2, by omega, r⟩
theorem own_ge {u : World} {B : Nat} {e : TypeId} {V : Value} {n : Nat} {xs : List Value} (h : u.ownsRow B e 1 V n xs) {b : Nat} (hb : V.ownBlock = some b) : B ≤ b := by
  rcases h.2 with ⟨e2, _⟩ | ⟨g, cap, cur, e2, hBg, _⟩
  · rw [e2] at hb; simp [Value.ownBlock] at hb
  · rw [e2] at hb; simp [Value.ownBlock] at hb; omega
theorem own_row {u : World} {base A m : Nat} {l : List Int} (h : u.ownsRow base 3 1 (.slice (some ⟨A, 0, none⟩) m m) m (ints l)) : base ≤ A ∧ RRow u A m (fun p => l.getD p 0) := by
  have hl := h.1
  rcases h.2 with ⟨e, _⟩ | ⟨g, cap, cur, e, hBg, hg, hc, hm, hcs, htk⟩
  · cases e
  · cases e
    refine ⟨hBg, cur, hg, by omega, fun p hp => ?_⟩
    have hlen : l.length = m := by rw [ints_len] at hl; omega
    have h1 : cur.toList[p]? = (ints l)[p]? := by
      rw [← htk, List.getElem?_take, if_pos (by omega)]
    rw [Array.getElem?_toList] at h1
    rw [h1]
    simp [ints, hlen, hp]
theorem row_own' {u : World} {base A m : Nat} {F : Nat → Int} {l : List Int} (h : RRow u A m F) (e : ∀ p, p < m → F p = l.getD p 0) (hb : base ≤ A) (hl : l.length = m) (hm : m ≤ 64) : u.ownsRow base 3 1 (.slice (some ⟨A, 0, none⟩) m m) m (ints l) :=
  row_own (h.congr fun p hp => by rw [if_pos hp, e p hp]) hb hl hm
/-- between two rounds of the writing over -/
structure AI (u : World) (s3 A C m : Nat) (V5 : Value) (l : List Int) (mk : Int) (i : Nat) (V6 : Value) (v : World) : Prop where
  lo : Below u.heap.size u v
  ra : RRow v A m (fun p => l.getD p 0)
  rc : RRow v C m (fun p => if p < i then mk else l.getD p 0)
  wa : v.ownsRow u.heap.size 3 1 V5 m (ints l)
  wb : ∀ b, V5.ownBlock = some b → b < s3 ∧ b ≠ C ∧ b ≠ A
  k : v.ownsRow s3 3 1 V6 i (ints (List.replicate i mk))
  ba : u.heap.size ≤ A
  bc : u.heap.size ≤ C
  ac : A ≠ C
  asz : A < s3
  cs : C < s3
  us : u.heap.size ≤ s3
  sz : s3 ≤ v.heap.size
section
variable {u v : World} {s3 A C m : Nat} {V5 V6 : Value} {l : List Int} {mk : Int} {i : Nat}
/-- the store, and new memory -/
theorem AI.store (h : AI u s3 A C m V5 l mk i V6 v) (hi : i < m) {v' : World} (hv : Below v.heap.size (v.setCell ⟨C, i, none⟩ (.int .i64 mk)) v') :
    Below u.heap.size u v' ∧ RRow v' A m (fun p => l.getD p 0) ∧ RRow v' C m (fun p => if p < i + 1 then mk else l.getD p 0) ∧ v'.ownsRow u.heap.size 3 1 V5 m (ints l) ∧ v'.ownsRow s3 3 1 V6 i (ints (List.replicate i mk)) ∧ s3 ≤ v'.heap.size := by
  have hs : (v.setCell ⟨C, i, none⟩ (.int .i64 mk)).heap.size = v.heap.size := by simp [World.setCell]
  have hk : ∀ k, k < v.heap.size → k ≠ C → v'.heap[k]? = v.heap[k]? := fun k hk hne => (hv.block k hk).trans (Below.heap_setCell v ⟨C, i, none⟩ _ k hne)
  have hbc := h.bc
  refine ⟨⟨hv.os.trans h.lo.os, hv.tape.trans h.lo.tape, hv.output.trans h.lo.output, Nat.le_trans h.lo.size (hs ▸ hv.size), fun k hk' => (hk k (Nat.lt_of_lt_of_le hk' h.lo.size) (by omega)).trans (h.lo.block k hk')⟩,
    h.ra.same (hk A h.ra.lt h.ac), ?_, ownsRow_keep h.wa (fun g hg _ hlt => hk g hlt (h.wb g hg).2.1), ownsRow_keep h.k (fun g hg hB hlt => hk g hlt (by have := h.cs; omega)), Nat.le_trans h.sz (hs ▸ hv.size)⟩
  refine ((h.rc.put hi mk).same (hv.block C h.rc.lt)).congr fun p hp => ?_
  by_cases e : p = i
  · rw [if_pos e, if_pos (by omega)]
  · rw [if_neg e]
    by_cases h2 : p < i
    · rw [if_pos h2, if_pos (by omega)]
    · rw [if_neg h2, if_neg (by omega)]
theorem AI.next (h : AI u s3 A C m V5 l mk i V6 v) (hi : i < m) {v' v'' : World} {V' : Value} (hv : Below v.heap.size (v.setCell ⟨C, i, none⟩ (.int .i64 mk)) v') (ho : v''.ownsRow s3 3 1 V' (i + 1) (ints (List.replicate i mk) ++ [.int .i64 mk])) (hg : v'.grownBy v'' V6.ownBlock) : AI u s3 A C m V5 l mk (i + 1) V' v'' := by
  obtain ⟨h1, h2, h3, h4, h5, h6⟩ := h.store hi hv
  have hk : ∀ k, k < s3 → v''.heap[k]? = v'.heap[k]? := fun k hk => hg.block k (Nat.lt_of_lt_of_le hk h6) (fun e => by
    rcases h.k.2 with ⟨e2, _⟩ | ⟨g, cap, cur, e2, hBg, _⟩
    · rw [e2] at e; simp [Value.ownBlock] at e
    · rw [e2] at e; simp [Value.ownBlock] at e; omega)
  have hus := h.us
  have e : ints (List.replicate (i + 1) mk) = ints (List.replicate i mk) ++ [.int .i64 mk] := by rw [List.replicate_succ', ints_snoc]
  exact ⟨⟨hg.os.trans h1.os, hg.tape.trans h1.tape, hg.output.trans h1.output, Nat.le_trans h1.size hg.size, fun k hk' => (hk k (by omega)).trans (h1.block k hk')⟩,
    h2.same (hk A h.asz), h3.same (hk C h.cs), ownsRow_keep h4 (fun g hg' _ _ => hk g (h.wb g hg').1), h.wb, by rw [e]; exact ho, h.ba, h.bc, h.ac, h.asz, h.cs, h.us, Nat.le_trans h6 hg.size⟩
end
/-- all, behind the two stores -/
theorem pall_done {p : Nat} {T : Tg} {u v w' : World} {D B R Q N f A C m s3 n : Nat} {VQ VL VW VL' VW' V5 V6 : Value} {l : List Int} {LL : List (List Int)} {vs ws : List Value} {mk : Int} (h : PAt p T u D B R Q N f VQ VL VW l l LL) (hm : l.length = m) (hm64 : m ≤ 64) (hn : LL.length = n)
    (ho : OwT T (p, 4) u 43 VL n vs ∧ OwT T (p, 5) u 43 VW n ws ∧ ∀ (i : Nat) xs, LL[i]? = some xs → ∃ V W, vs[i]? = some V ∧ ws[i]? = some W ∧ OwT T (p, 7 + i) u 3 V xs.length (ints xs) ∧ TL T (p, 6) u W (ints xs) ∧ xs.length ≤ 64)
    (hi : AI u s3 A C m V5 l mk m V6 v) (hF : FrP (fun k => k = D ∨ VL.ownBlock = some k ∨ VW.ownBlock = some k) v w') (hD : PBox w' D B Q VL' VW')
    (hL : w'.ownsRow 0 43 1 VL' (n + 2) (vs ++ [.slice (some ⟨A, 0, none⟩) m m, .slice (some ⟨C, 0, none⟩) m m])) (hW : w'.ownsRow 0 43 1 VW' (n + 2) (ws ++ [V5, V6]))
    (hL' : ∀ b, VL'.ownBlock = some b → VL.ownBlock = some b ∨ v.heap.size ≤ b) (hW' : ∀ b, VW'.ownBlock = some b → VW.ownBlock = some b ∨ v.heap.size ≤ b) (hLW : ∀ b, VL'.ownBlock = some b → VW'.ownBlock ≠ some b) :
    ∃ T' VL' VW' LL', PAt p T' w' D B R Q N f VQ VL' VW' l l LL' ∧ Ext p T T' u w' ∧ LL'.length = n + 2 := by
  obtain ⟨T', hT'⟩ : ∃ T' : Tg, T' = fun k => if k < u.heap.size then T k else if k = A then (p, 7 + n) else if k = C then (p, 7 + (n + 1)) else if VL'.ownBlock = some k then (p, 4) else if VW'.ownBlock = some k then (p, 5) else (p, 6) := ⟨_, rfl⟩
  have hT : ∀ k, k < u.heap.size → T' k = T k := fun k hk => by rw [hT']; exact if_pos hk
  have huv := hi.lo.size
  have hba := hi.ba
  have hbc := hi.bc
  have has := hi.asz
  have hcs := hi.cs
  have hac := hi.ac
  have hsz := hi.sz
  have hus := hi.us
  have hvl : ∀ b, VL.ownBlock = some b → b < u.heap.size := fun b hb => own_lt ho.1.1 hb
  have hvw : ∀ b, VW.ownBlock = some b → b < u.heap.size := fun b hb => own_lt ho.2.1.1 hb
  have hs : ∀ k r, k < u.heap.size → T k = (p, r) → r ≠ 0 → r ≠ 4 → r ≠ 5 → w'.heap[k]? = u.heap[k]? := fun k r hk e n1 n2 n3 => (hF.block k (by omega) (fun x => by
    rcases x with x | x | x
    · subst x; rw [h.tD] at e; exact n1 (by cases e; rfl)
    · have := ho.1.2 k x; rw [this] at e; exact n2 (by cases e; rfl)
    · have := ho.2.1.2 k x; rw [this] at e; exact n3 (by cases e; rfl))).trans (hi.lo.block k hk)
  have hnew : ∀ k, u.heap.size ≤ k → k < v.heap.size → w'.heap[k]? = v.heap[k]? := fun k h1 h2 => hF.block k h2 (fun x => by
    rcases x with x | x | x
    · have := h.d.lt; omega
    · have := hvl k x; omega
    · have := hvw k x; omega)
  have eA : T' A = (p, 7 + n) := by rw [hT']; show (if A < u.heap.size then _ else _) = _; rw [if_neg (by omega), if_pos rfl]
  have eC : T' C = (p, 7 + (n + 1)) := by rw [hT']; show (if C < u.heap.size then _ else _) = _; rw [if_neg (by omega), if_neg (by omega), if_pos rfl]
  have eL : ∀ b, VL'.ownBlock = some b → T' b = (p, 4) := fun b hb => by
    rcases hL' b hb with x | x
    · rw [hT b (hvl b x)]; exact ho.1.2 b x
    · rw [hT']; show (if b < u.heap.size then _ else _) = _; rw [if_neg (by omega), if_neg (by omega), if_neg (by omega), if_pos hb]
  have eW : ∀ b, VW'.ownBlock = some b → T' b = (p, 5) := fun b hb => by
    rcases hW' b hb with x | x
    · rw [hT b (hvw b x)]; exact ho.2.1.2 b x
    · rw [hT']; show (if b < u.heap.size then _ else _) = _; rw [if_neg (by omega), if_neg (by omega), if_neg (by omega), if_neg (fun y => hLW b y hb), if_pos hb]
  have e6 : ∀ b, u.heap.size ≤ b → b < v.heap.size → b ≠ A → b ≠ C → T' b = (p, 6) := fun b h1 h2 h3 h4 => by
    have y1 : VL'.ownBlock ≠ some b := fun y => by
      rcases hL' b y with x | x
      · have := hvl b x; omega
      · omega
    have y2 : VW'.ownBlock ≠ some b := fun y => by
      rcases hW' b y with x | x
      · have := hvw b x; omega
      · omega
    rw [hT']
    show (if b < u.heap.size then _ else _) = _
    rw [if_neg (by omega), if_neg h3, if_neg h4, if_neg y1, if_neg y2]
  have hvsl : vs.length = n := by have := ho.1.1.1; omega
  have hwsl : ws.length = n := by have := ho.2.1.1.1; omega
  refine ⟨T', VL', VW', LL ++ [l, List.replicate m mk], ⟨hD, h.g.same (hs B 1 h.g.b.lt h.tB (by omega) (by omega) (by omega)) (hs R 2 h.g.r.lt h.tR (by omega) (by omega) (by omega)), h.q.same (hs Q 3 h.q.lt h.tQ (by omega) (by omega) (by omega)), h.lq.move hT (fun k hk e => hs k 6 hk e (by omega) (by omega) (by omega)), ?_, (hT D h.d.lt).trans h.tD, (hT B h.g.b.lt).trans h.tB, (hT R h.g.r.lt).trans h.tR, (hT Q h.q.lt).trans h.tQ⟩, ⟨hT, ?_⟩, by simp [hn]⟩
  · refine ⟨_, _, ⟨by rw [List.length_append, hn]; exact hL, eL⟩, ⟨by rw [List.length_append, hn]; exact hW, eW⟩, fun i xs hix => ?_⟩
    by_cases h1 : i < n
    · rw [List.getElem?_append_left (by omega)] at hix ⊢
      rw [List.getElem?_append_left (by omega)]
      obtain ⟨V, W, a1, a2, a3, a4, a5⟩ := ho.2.2 i xs hix
      exact ⟨V, W, a1, a2, a3.move hT (fun k hk e => hs k (7 + i) hk e (by omega) (by omega) (by omega)), a4.move hT (fun k hk e => hs k 6 hk e (by omega) (by omega) (by omega)), a5⟩
    · rw [List.getElem?_append_right (by omega)] at hix ⊢
      rw [List.getElem?_append_right (by omega), hvsl, hwsl]
      rw [hn] at hix
      rcases (by have := (List.getElem?_eq_some_iff.1 hix).1; simp at this; omega : i = n ∨ i = n + 1) with e | e
      · subst e
        rw [Nat.sub_self] at hix ⊢
        cases hix
        refine ⟨_, _, rfl, rfl, ⟨?_, fun b hb => by cases hb; exact eA⟩, ?_, by omega⟩
        · rw [hm]
          exact own_base (row_own' (hi.ra.same (hnew A hba (by omega))) (fun p hp => rfl) hba hm hm64) (Nat.zero_le _)
        · exact lx_own (ownsRow_keep hi.wa (fun g hg hB hlt => hnew g hB hlt)) _ (fun b hb => by
            have h2 := hi.wb b hb
            exact e6 b (own_ge hi.wa hb) (by omega) h2.2.2 h2.2.1)
      · subst e
        rw [show n + 1 - n = 1 by omega] at hix ⊢
        cases hix
        refine ⟨_, _, rfl, rfl, ⟨?_, fun b hb => by cases hb; exact eC⟩, ?_, by simp; omega⟩
        · rw [List.length_replicate]
          exact own_base (row_own' (hi.rc.same (hnew C hbc (by omega))) (fun p hp => by rw [if_pos hp, List.getD_eq_getElem?_getD, List.getElem?_replicate, if_pos hp]; rfl) hbc (List.length_replicate ..) hm64) (Nat.zero_le _)
        · exact lx_own (ownsRow_keep hi.k (fun g hg hB hlt => hnew g (by omega) hlt)) _ (fun b hb => by
            have h2 := own_ge hi.k hb
            exact e6 b (by omega) (own_lt hi.k hb) (by omega) (by omega))
  · exact ((FrP.of_below (fun k => (T k).1 = p) hi.lo).trans hF (fun k hk x => by
      rcases x with x | x | x
      · subst x; rw [h.tD]
      · rw [ho.1.2 k x]
      · rw [ho.2.1.2 k x]))
set_option maxRecDepth 8000 in
set_option maxHeartbeats 3200000 in
theorem pall_any {p : Nat} {T : Tg} {u : World} {D B R Q N f : Nat} {VQ VL VW : Value} {l : List Int} {LL : List (List Int)} (h : PAt p T u D B R Q N f VQ VL VW l l LL) (hLL : LL.length ≤ 4000000) :
    Calls Try.prog 22 #[.pointer (some ⟨D, 0, none⟩)] u fun e w' => e = .returned (.bool true) ∧ ∃ T' VL' VW' LL', PAt p T' w' D B R Q N f VQ VL' VW' l l LL' ∧ Ext p T T' u w' ∧ LL'.length = LL.length + 2 := by
  obtain ⟨m, hm⟩ : ∃ m, l.length = m := ⟨_, rfl⟩
  have hm64 : m ≤ 64 := by have := h.g.l; have := h.g.n; omega
  have HP : Hid (PAt p T u D B R Q N f VQ VL VW l l LL) := h
  have HAL : Hid (∀ w, Below u.heap.size u w → Calls Try.prog 18 #[.pointer (some ⟨B, 0, none⟩)] w fun e w' => ∃ A, e = .returned (.slice (some ⟨A, 0, none⟩) m m) ∧ w'.ownsRow w.heap.size 3 1 (.slice (some ⟨A, 0, none⟩) m m) m (ints l) ∧ Below w.heap.size w w') := fun w hb => by rw [← hm]; exact all_any (h.g.later hb)
  have HM : Hid (l.length = m) := hm
  obtain ⟨vs, ws, hvs, hws, hal⟩ := h.ls
  obtain ⟨aL, cL, eL⟩ := own_form hvs.1
  obtain ⟨aW, cW, eW⟩ := own_form hws.1
  obtain ⟨n, hn⟩ : ∃ n, LL.length = n := ⟨_, rfl⟩
  rw [hn] at eL eW hvs hws hLL
  subst eL eW
  have HN : Hid (LL.length = n) := hn
  have HV : Hid (OwT T (p, 4) u 43 (.slice aL n cL) n vs ∧ OwT T (p, 5) u 43 (.slice aW n cW) n ws ∧ ∀ (i : Nat) xs, LL[i]? = some xs → ∃ V W, vs[i]? = some V ∧ ws[i]? = some W ∧ OwT T (p, 7 + i) u 3 V xs.length (ints xs) ∧ TL T (p, 6) u W (ints xs) ∧ xs.length ≤ 64) := (⟨hvs, hws, hal⟩ : _ ∧ _ ∧ _)
  have HX : Hid ((∀ b, (Value.slice aL n cL).ownBlock = some b → b ≠ D ∧ b < u.heap.size) ∧ (∀ b, (Value.slice aW n cW).ownBlock = some b → b ≠ D ∧ b < u.heap.size) ∧ (∀ b, (Value.slice aL n cL).ownBlock = some b → (Value.slice aW n cW).ownBlock ≠ some b) ∧ D < u.heap.size) :=
    (⟨fun b hb => ⟨fun e => by (have h1 := hvs.2 b hb; rw [e, h.tD] at h1; cases h1), own_lt hvs.1 hb⟩, fun b hb => ⟨fun e => by (have h1 := hws.2 b hb; rw [e, h.tD] at h1; cases h1), own_lt hws.1 hb⟩, fun b hb e => by (have h1 := hvs.2 b hb; have h2 := hws.2 b e; rw [h1] at h2; cases h2), h.d.lt⟩ : _ ∧ _ ∧ _ ∧ _)
  have HD : Hid (∀ w, Below u.heap.size u w → (w.cell? ⟨D, 0, none⟩ = some (.pointer (some ⟨B, 0, none⟩)) ∧ w.cell? ⟨D, 1, none⟩ = some (.pointer (some ⟨Q, 0, none⟩)) ∧ w.cell? ⟨D, 2, none⟩ = some (.slice aL n cL) ∧ w.cell? ⟨D, 3, none⟩ = some (.slice aW n cW)) ∧ w.cell? ⟨Q, 1, none⟩ = some VQ ∧ LAt w VQ (ints l)) := fun w hb => (⟨(h.later hb).d.cells, (h.later hb).q.cells.2, (h.later hb).lq.1⟩ : _ ∧ _ ∧ _)
  obtain ⟨⟨d0, d1, d2, d3⟩, e1, _⟩ := HD.out _ (Below.refl _ _)
  have HPB : Hid (PBox u D B Q (.slice aL n cL) (.slice aW n cW)) := h.d
  clear h hm hn hvs hws hal
  go_enter Try.func22, Try.ntmps22
  go_upto_region 1 with fail
  go_wp2_with fail
  refine (HAL.out _ (Below.refl _ _)).mono ?_
  rintro e w1 ⟨A, rfl, hoA, hb1⟩
  have HB1 : Hid (Below u.heap.size u w1) := hb1
  have HA1 : Hid (w1.ownsRow u.heap.size 3 1 (.slice (some ⟨A, 0, none⟩) m m) m (ints l)) := hoA
  obtain ⟨⟨d0, d1, d2, d3⟩, e1, _⟩ := HD.out _ hb1
  clear hoA hb1
  go_wp2_with fail
  refine (HAL.out _ HB1.out).mono ?_
  rintro e w2 ⟨C, rfl, hoC, hb2⟩
  have HB2 : Hid (Below u.heap.size u w2) := below_step HB1.out hb2
  have HA2 : Hid (w2.ownsRow u.heap.size 3 1 (.slice (some ⟨A, 0, none⟩) m m) m (ints l) ∧ A < w1.heap.size ∧ w1.heap.size ≤ C) := (⟨ownsRow_keep HA1.out (fun g hg _ hlt => hb2.block g hlt), own_lt HA1.out rfl, (own_row hoC).1⟩ : _ ∧ _ ∧ _)
  have HC2 : Hid (w2.ownsRow w1.heap.size 3 1 (.slice (some ⟨C, 0, none⟩) m m) m (ints l)) := hoC
  obtain ⟨⟨d0, d1, d2, d3⟩, e1, hq2⟩ := HD.out _ HB2.out
  have HQ2 : Hid (LAt w2 VQ (ints l)) := hq2
  clear hoC hb2 hq2 HA1
  go_wp2_with fail
  refine (same_any (owns_lat HA2.out.1) HQ2.out (by rw [HM.out]; omega)).mono ?_
  rintro e w3 ⟨rfl, hb3⟩
  have HB3 : Hid (Below u.heap.size u w3) := below_step HB2.out hb3
  have HA3 : Hid (w3.ownsRow u.heap.size 3 1 (.slice (some ⟨A, 0, none⟩) m m) m (ints l)) := ownsRow_keep HA2.out.1 (fun g hg _ hlt => hb3.block g hlt)
  have HC3 : Hid (w3.ownsRow w1.heap.size 3 1 (.slice (some ⟨C, 0, none⟩) m m) m (ints l)) := ownsRow_keep HC2.out (fun g hg _ hlt => hb3.block g hlt)
  have HAC : Hid (A < w1.heap.size ∧ w1.heap.size ≤ C) := HA2.out.2
  obtain ⟨⟨d0, d1, d2, d3⟩, e1, hq3⟩ := HD.out _ HB3.out
  have HQ3 : Hid (LAt w3 VQ (ints l)) := hq3
  clear hb3 hq3 HA2 HC2 HQ2
  go_wp2_with fail
  refine (same_any (owns_lat HC3.out) HQ3.out (by rw [HM.out]; omega)).mono ?_
  rintro e w4 ⟨rfl, hb4⟩
  have HB4 : Hid (Below u.heap.size u w4 ∧ u.heap.size ≤ w1.heap.size) := (⟨below_step HB3.out hb4, HB1.out.size⟩ : _ ∧ _)
  have HA4 : Hid (w4.ownsRow u.heap.size 3 1 (.slice (some ⟨A, 0, none⟩) m m) m (ints l)) := ownsRow_keep HA3.out (fun g hg _ hlt => hb4.block g hlt)
  have HC4 : Hid (w4.ownsRow w1.heap.size 3 1 (.slice (some ⟨C, 0, none⟩) m m) m (ints l)) := ownsRow_keep HC3.out (fun g hg _ hlt => hb4.block g hlt)
  clear hb4 HA3 HC3 HQ3 HB1 HB2 HB3 d0 d1 d2 d3 e1
  go_upto_region 7 with fail
  go_wp2_with (refine wpList_append_lat rfl (.tmp 40) (.tmp 41) rfl (.int .i64 0) 8 (by kernel_rfl) infI rfl w4.heap.size (.slice none 0 0) 0 [] rfl (owns_nil _ _ _) (.slice (some ⟨A, 0, none⟩) m m) (ints l) rfl (owns_lat HA4.out) (ints_one l) (by rw [ints_len, HM.out]; unfold maxLen; omega) (by rw [ints_len, HM.out]; omega) (Nat.le_refl _) ?_; intro V5 w5 ho5 hg5 hn5 hh5; rw [ints_len, HM.out, Nat.zero_add, List.nil_append] at ho5)
  obtain ⟨a5, c5, rfl⟩ := own_form ho5
  obtain ⟨mk, hmk⟩ : ∃ mk : Int, -5 - (n : Int) = mk := ⟨_, rfl⟩
  have h5 : Below w4.heap.size w4 w5 := (Below.refl _ w4).grown hg5 (Nat.le_refl _) (fun k hk => by cases hk)
  have H0 : Hid (AI u w5.heap.size A C m (.slice a5 m c5) l mk 0 (.slice none 0 0) w5) := by
    have hA5 := own_row (ownsRow_keep HA4.out (fun g hg _ hlt => h5.block g hlt))
    have hC5 := own_row (ownsRow_keep HC4.out (fun g hg _ hlt => h5.block g hlt))
    have hac := HAC.out
    have hcl : C < w4.heap.size := own_lt HC4.out rfl
    have h45 := h5.size
    have hu4 := HB4.out.1.size
    refine ⟨below_step HB4.out.1 h5, hA5.2, hC5.2.congr fun p hp => by rw [if_neg (by omega)], own_base ho5 hu4, fun b hb => ⟨own_lt ho5 hb, ?_, ?_⟩, owns_nil _ _ _, hA5.1, ?_, ?_, ?_, ?_, ?_, Nat.le_refl _⟩
    · have := own_ge ho5 hb; omega
    · have := own_ge ho5 hb; omega
    · have := HB4.out.2; omega
    · omega
    · omega
    · omega
    · omega
  obtain ⟨s5, hs5⟩ : ∃ s5, w5.heap.size = s5 := ⟨_, rfl⟩
  rw [hs5] at H0
  clear hs5 h5 ho5 hg5 hn5 hh5 HA4 HC4 HB4 HAC HAL
  go_loopw [6, 45] (fun v6 v45 v => ∃ i : Nat, v45 = .int .i64 (i : Nat) ∧ i ≤ m ∧ Hid (AI u s5 A C m (.slice a5 m c5) l mk i v6 v)) (fun _ q _ => m - (Go.RowKit.intOf q).toNat)
  case atStart => exact ⟨0, rfl, Nat.zero_le _, H0⟩
  case round =>
    obtain ⟨i, rfl, hi, HI⟩ := hrel
    clear H0
    by_cases hlt : i < m
    · have l1 : (i : Int) < (m : Int) := by omega
      obtain ⟨a6, c6, rfl⟩ := own_form HI.out.k
      obtain ⟨⟨d0, d1, d2, d3⟩, e1, _⟩ := HD.out _ HI.out.lo
      have c4 := HI.out.rc.cell hlt
      have q4 := HI.out.rc.frozen i
      go_upto_region 12 with fail
      have hsz : (wr.setCell ⟨C, i, none⟩ (.int .i64 mk)).heap.size = wr.heap.size := by simp [World.setCell]
      have hbn : Below wr.heap.size (wr.setCell ⟨C, i, none⟩ (.int .i64 mk)) ((wr.setCell ⟨C, i, none⟩ (.int .i64 mk)).alloc (.cells #[.int .i64 mk] 3)) := by
        have := below_new (wr.setCell ⟨C, i, none⟩ (.int .i64 mk)) (.cells #[.int .i64 mk] 3)
        rwa [hsz] at this
      have HB : Hid (Below wr.heap.size (wr.setCell ⟨C, i, none⟩ (.int .i64 mk)) ((wr.setCell ⟨C, i, none⟩ (.int .i64 mk)).alloc (.cells #[.int .i64 mk] 3))) := hbn
      obtain ⟨_, _, _, _, hst, hst2⟩ := HI.out.store hlt hbn
      have HST : Hid (_ ∧ _) := (⟨hst, hst2⟩ : _ ∧ _)
      have cc5 : (wr.setCell ⟨C, i, none⟩ (.int .i64 mk)).cell? ⟨C, i, none⟩ = some (.int .i64 mk) := by
        have := (HI.out.rc.put hlt mk).cell hlt
        rwa [if_pos rfl] at this
      have HSZ : Hid (wr.heap.size = (wr.setCell ⟨C, i, none⟩ (.int .i64 mk)).heap.size) := hsz.symm
      clear hsz hbn hst hst2 d0 d1 d2 d3 e1 c4 q4 hmk
      go_wp2_with (refine wpList_append_lat rfl (.tmp 57) (.tmp 62) rfl (.int .i64 0) 8 (by kernel_rfl) infI rfl s5 (.slice a6 i c6) i (ints (List.replicate i mk)) rfl HST.out.1 _ [.int .i64 mk] rfl (lat_lit' _ HSZ.out _ 3 (0, 0)) (fun u hu => by simp at hu; subst hu; rfl) (by unfold maxLen; simp; omega) (by simp; omega) HST.out.2 ?_; intro V7 w7 ho7 hg7 hn7 hh7; have HN7 : Hid (AI u s5 A C m (.slice a5 m c5) l mk (i + 1) V7 w7) := HI.out.next hlt HB.out ho7 hg7; clear ho7 hg7 hn7 hh7)
      go_roundw
      case rel => exact ⟨i + 1, by go_num, by omega, HN7⟩
      case measure => simp [Go.RowKit.intOf]; omega
    · have l1 : ¬ (i : Int) < (m : Int) := by omega
      obtain rfl : m = i := by omega
      obtain ⟨⟨d0, d1, d2, d3⟩, _, _⟩ := HD.out _ HI.out.lo
      obtain ⟨a6, c6, rfl⟩ := own_form HI.out.k
      have k1 := below_new wr (.cells #[.slice (some ⟨A, 0, none⟩) m m, .slice (some ⟨C, 0, none⟩) m m] 43)
      have k2 : Below u.heap.size u (wr.alloc (.cells #[.slice (some ⟨A, 0, none⟩) m m, .slice (some ⟨C, 0, none⟩) m m] 43)) := below_step HI.out.lo k1
      have HK : Hid (_ ∧ _) := (⟨k1, k2⟩ : _ ∧ _)
      have HOL : Hid (_) := (ownsRow_keep HV.out.1.1 (fun g hg _ hlt => k2.block g hlt))
      clear k1 k2
      go_upto_region 15 with (refine wpList_append_lat rfl (.tmp 69) (.tmp 72) rfl (.slice none 0 0) 24 (by kernel_rfl) infS rfl 0 (.slice aL n cL) n vs rfl HOL.out _ [.slice (some ⟨A, 0, none⟩) m m, .slice (some ⟨C, 0, none⟩) m m] rfl (lat_lit2 _ rfl _ _ 43 (0, 0)) (fun u hu => by simp at hu; rcases hu with hu | hu <;> subst hu <;> rfl) (by unfold maxLen; simp; omega) (by simp; omega) (Nat.zero_le _) ?_; intro V8 w8 ho8 hg8 hn8 hh8; obtain ⟨a8, c8, rfl⟩ := own_form ho8; have HG8 : Hid (_ ∧ _ ∧ _) := (⟨ho8, hg8, hh8⟩ : _ ∧ _ ∧ _); have hpb8 : PBox w8 D B Q (.slice aL n cL) (.slice aW n cW) := HPB.out.same ((hg8.block D (Nat.lt_of_lt_of_le HX.out.2.2.2 HK.out.2.size) (fun e => (HX.out.1 D e.symm).1 rfl)).trans (HK.out.2.block D HX.out.2.2.2)); have HPB8 : Hid (PBox w8 D B Q (.slice aL n cL) (.slice aW n cW)) := hpb8; have f0 := hpb8.cells.1; have f1 := hpb8.cells.2.1; have f2 := hpb8.cells.2.2.1; have q2 := hpb8.frozen 2; clear ho8 hg8 hn8 hh8 hpb8)
      obtain ⟨y1, hy1⟩ : ∃ y1, wr.alloc (.cells #[.slice (some ⟨A, 0, none⟩) m m, .slice (some ⟨C, 0, none⟩) m m] 43) = y1 := ⟨_, rfl⟩
      rw [hy1] at HG8 HK
      obtain ⟨w9, hw9⟩ : ∃ w9, w8.setCell ⟨D, 2, none⟩ (.slice a8 (n + 2) c8) = w9 := ⟨_, rfl⟩
      have hpb9 := HPB8.out.put2 (.slice a8 (n + 2) c8)
      have sz9 : w9.heap.size = w8.heap.size := by rw [← hw9]; simp [World.setCell]
      have F9 : FrP (fun k => k = D ∨ (Value.slice aL n cL).ownBlock = some k) wr w9 := by
        rw [← hw9]
        exact ((FrP.of_below _ HK.out.1).grown HG8.out.2.1 (fun k _ e => .inr e)).set (fun _ => .inl rfl) 2 _
      have o9 : w9.ownsRow 0 43 1 (.slice a8 (n + 2) c8) (n + 2) (vs ++ [.slice (some ⟨A, 0, none⟩) m m, .slice (some ⟨C, 0, none⟩) m m]) := by
        refine ownsRow_keep HG8.out.1 (fun g hg _ hlt => ?_)
        rw [← hw9]
        refine Below.heap_setCell w8 ⟨D, 2, none⟩ _ g (fun e => ?_)
        have e2 : g = D := e
        rcases HG8.out.2.2 g hg with x | x
        · exact (HX.out.1 g x).1 e2
        · have := HX.out.2.2.2; have := HK.out.2.size; omega
      have n9 : ∀ b, (Value.slice a8 (n + 2) c8).ownBlock = some b → ((Value.slice aL n cL).ownBlock = some b ∨ wr.heap.size ≤ b) ∧ b < w9.heap.size := fun b hb => ⟨(HG8.out.2.2 b hb).imp id (fun x => Nat.le_trans HK.out.1.size x), own_lt o9 hb⟩
      have hwk : ∀ k, (Value.slice aW n cW).ownBlock = some k → w9.heap[k]? = wr.heap[k]? := fun k hk => F9.block k (Nat.lt_of_lt_of_le (HX.out.2.1 k hk).2 HI.out.lo.size) (fun x => by
        rcases x with x | x
        · exact (HX.out.2.1 k hk).1 x
        · exact HX.out.2.2.1 k x hk)
      have K2 := below_new w9 (.cells #[.slice a5 m c5, .slice a6 m c6] 43)
      have hlw : ∀ k, (Value.slice aW n cW).ownBlock = some k → k < w9.heap.size := fun k hk => Nat.lt_of_lt_of_le (HX.out.2.1 k hk).2 (Nat.le_trans HI.out.lo.size F9.size)
      have HOW : Hid ((w9.alloc (.cells #[.slice a5 m c5, .slice a6 m c6] 43)).ownsRow 0 43 1 (.slice aW n cW) n ws) := ownsRow_keep HV.out.2.1.1 (fun g hg _ hlt => (K2.block g (hlw g hg)).trans ((hwk g hg).trans (HI.out.lo.block g hlt)))
      rw [hw9] at hpb9 ⊢
      have H9 : Hid (_ ∧ _ ∧ _ ∧ _ ∧ _ ∧ _) := (⟨F9, o9, n9, K2, hpb9, hlw⟩ : _ ∧ _ ∧ _ ∧ _ ∧ _ ∧ _)
      have SZ9 : Hid (w9.heap.size = w8.heap.size) := sz9
      have g0 := hpb9.cells.1
      have g1 := hpb9.cells.2.1
      have g2 := hpb9.cells.2.2.1
      have g3 := hpb9.cells.2.2.2
      clear hpb9 F9 o9 n9 K2 hwk hlw sz9 f0 f1 f2 q2 d0 d1 d2 d3 hw9 hy1
      go_upto_region 16 with (refine wpList_append_lat rfl (.tmp 80) (.tmp 83) rfl (.slice none 0 0) 24 (by kernel_rfl) infS rfl 0 (.slice aW n cW) n ws rfl HOW.out _ [.slice a5 m c5, .slice a6 m c6] rfl (lat_lit2 _ rfl _ _ 43 (0, 0)) (fun u hu => by simp at hu; rcases hu with hu | hu <;> subst hu <;> rfl) (by unfold maxLen; simp; omega) (by simp; omega) (Nat.zero_le _) ?_; intro V10 w10 ho10 hg10 hn10 hh10; obtain ⟨a10, c10, rfl⟩ := own_form ho10; have HG10 : Hid (_ ∧ _ ∧ _) := (⟨ho10, hg10, hh10⟩ : _ ∧ _ ∧ _); have hpb10 : PBox w10 D B Q (.slice a8 (n + 2) c8) (.slice aW n cW) := H9.out.2.2.2.2.1.same ((hg10.block D (Nat.lt_of_lt_of_le H9.out.2.2.2.2.1.lt H9.out.2.2.2.1.size) (fun e => (HX.out.2.1 D e.symm).1 rfl)).trans (H9.out.2.2.2.1.block D H9.out.2.2.2.2.1.lt)); have HPB10 : Hid (PBox w10 D B Q (.slice a8 (n + 2) c8) (.slice aW n cW)) := hpb10; have r0 := hpb10.cells.1; have r1 := hpb10.cells.2.1; have r2 := hpb10.cells.2.2.1; have r3 := hpb10.cells.2.2.2; have q3 := hpb10.frozen 3; clear ho10 hg10 hn10 hh10 hpb10)
      go_wp2_with fail
      go_ret
      refine ⟨rfl, ?_⟩
      rw [HN.out]
      have hbel := H9.out.2.2.2.1
      have hF1 : FrP (fun k => k = D ∨ (Value.slice aL n cL).ownBlock = some k ∨ (Value.slice aW n cW).ownBlock = some k) wr w10 := ((H9.out.1.mono (fun k _ x => x.elim .inl (fun y => .inr (.inl y)))).below hbel).grown HG10.out.2.1 (fun k _ e => .inr (.inr e))
      refine pall_done HP.out HM.out hm64 HN.out HV.out HI.out (hF1.set (fun _ => .inl rfl) 3 (.slice a10 (n + 2) c10)) (HPB10.out.put3 _) ?_ ?_ ?_ ?_ ?_
      · refine ownsRow_keep H9.out.2.1 (fun g hg _ hlt => ?_)
        have hgd := H9.out.2.2.1 g hg
        have hne : g ≠ D := fun e => by
          rcases hgd.1 with x | x
          · exact (HX.out.1 g x).1 e
          · have := HX.out.2.2.2; have := HI.out.lo.size; omega
        have hnw : (Value.slice aW n cW).ownBlock ≠ some g := fun e => by
          rcases hgd.1 with x | x
          · exact HX.out.2.2.1 g x e
          · have := (HX.out.2.1 g e).2; have := HI.out.lo.size; omega
        exact (Below.heap_setCell w10 ⟨D, 3, none⟩ _ g hne).trans ((HG10.out.2.1.block g (Nat.lt_of_lt_of_le hlt hbel.size) (fun e => hnw e.symm)).trans (hbel.block g hlt))
      · refine ownsRow_keep HG10.out.1 (fun g hg _ hlt => Below.heap_setCell w10 ⟨D, 3, none⟩ _ g (fun e => ?_))
        have e2 : g = D := e
        rcases HG10.out.2.2 g hg with x | x
        · exact (HX.out.2.1 g x).1 e2
        · have := H9.out.2.2.2.2.1.lt; have := hbel.size; omega
      · exact fun b hb => (H9.out.2.2.1 b hb).1
      · exact fun b hb => (HG10.out.2.2 b hb).imp id (fun x => Nat.le_trans (Nat.le_trans H9.out.1.size hbel.size) x)
      · intro b hb e
        have hgd := H9.out.2.2.1 b hb
        rcases HG10.out.2.2 b e with x | x
        · rcases hgd.1 with y | y
          · exact HX.out.2.2.1 b y x
          · have := (HX.out.2.1 b x).2; have := HI.out.lo.size; omega
        · have := hbel.size; omega
end Go.Proofs.Ytclcpblpmfijiaa
