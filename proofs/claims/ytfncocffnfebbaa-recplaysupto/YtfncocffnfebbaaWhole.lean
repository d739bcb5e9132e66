/- The contract of the book's whole: what was answered is as it was, and each list is a memory of its own. -/
import Derived.Test.YtfncocffnfebbaaMarks
namespace Go.Proofs.Ytfncocffnfebbaa
open Go.RowKit
attribute [local go_sem ↓] Go.wp_at_zero Go.wp_at_succ

theorem row_at {u : World} {B : Nat} {t : TypeId} {ra : Option Addr} {m rc k : Nat} {xs : List Value} (h : u.ownsRow B t 1 (.slice ra m rc) m xs) (hk : k < m) : ∃ g cur, ra = some ⟨g, 0, none⟩ ∧ u.heap[g]? = some (.cells cur t (0, 0)) ∧ cur[k]? = xs[k]? := by
  rcases h.2 with ⟨_, h0⟩ | ⟨g, cap, cur, hv, _, hg, _, _, _, ht⟩
  · omega
  · cases hv
    refine ⟨g, cur, rfl, hg, ?_⟩
    rw [← ht]
    simp [hk]
/-- the rest of the heap stands: all blocks but those of bytes -/
def Stands (u v : World) : Prop := ∀ (b : Nat) (cur : Array Value) (t : TypeId) (fr : Nat × Nat), t ≠ 5 → u.heap[b]? = some (.cells cur t fr) → v.heap[b]? = some (.cells cur t fr)
theorem stands_below {u v : World} (h : Below u.heap.size u v) : Stands u v := fun b cur t fr _ hb => by rw [h.block b (Array.getElem?_eq_some_iff.1 hb).1]; exact hb
theorem cell_of {v : World} {b k : Nat} {cur : Array Value} {t : TypeId} {fr : Nat × Nat} (h : v.heap[b]? = some (.cells cur t fr)) : v.cell? ⟨b, k, none⟩ = cur[k]? := by simp [World.cell?, h]
/-- what the walk wants of the book at index k -/
theorem book_at {u v : World} {K B m rc sc k : Nat} {ra sa : Option Addr} {ans : List (Ans × List Int)} {x : Ans × List Int} (hm : m = ans.length) (hK : u.heap[K]? = some (.cells #[.slice ra m rc, .slice sa m sc] 49 (0, 0)))
    (hR : u.ownsRow B 26 1 (.slice ra m rc) m (ans.map fun x => x.1.val)) (hW : u.ownsRow B 9 1 (.slice sa m sc) m (ans.map fun x => Value.string (strOfNums x.2))) (hs : Stands u v) (hx : ans[k]? = some x) :
    ∃ gr gw, ra = some ⟨gr, 0, none⟩ ∧ sa = some ⟨gw, 0, none⟩ ∧ v.cell? ⟨K, 0, none⟩ = some (.slice ra m rc) ∧ v.cell? ⟨K, 1, none⟩ = some (.slice sa m sc) ∧ v.cell? ⟨gr, k, none⟩ = some (.slice x.1.a x.1.n x.1.n) ∧ v.cell? ⟨gw, k, none⟩ = some (.string (strOfNums x.2)) := by
  have hk : k < m := by rw [hm]; exact (List.getElem?_eq_some_iff.1 hx).1
  obtain ⟨gr, cr, er, hr, hcr⟩ := row_at hR hk
  obtain ⟨gw, cw, ew, hw, hcw⟩ := row_at hW hk
  obtain ⟨k0, k1, _, _⟩ := two_of_block (hs _ _ _ _ (by decide) hK)
  refine ⟨gr, gw, er, ew, k0, k1, ?_, ?_⟩
  · rw [cell_of (hs _ _ _ _ (by decide) hr), hcr]
    simp [hx, Ans.val]
  · rw [cell_of (hs _ _ _ _ (by decide) hw), hcw]
    simp [hx]
theorem book_head {u v : World} {K m rc sc : Nat} {ra sa : Option Addr} (hK : u.heap[K]? = some (.cells #[.slice ra m rc, .slice sa m sc] 49 (0, 0))) (hs : Stands u v) : v.cell? ⟨K, 0, none⟩ = some (.slice ra m rc) := (two_of_block (hs _ _ _ _ (by decide) hK)).1

/-- blocks of bytes in which no list lies stay -/
def Untouched (ans : List (Ans × List Int)) (u u' : World) : Prop := ∀ (F : Nat) (cur : Array Value) (fr : Nat × Nat), u.heap[F]? = some (.cells cur 5 fr) → (∀ A ∈ ans.map (·.1), A.n = 0 ∨ A.b ≠ F) → u'.heap[F]? = some (.cells cur 5 fr)
theorem Laying.next {B : Nat} {ans : List Ans} {u v : World} {k : Nat} {A : Ans} (h : Laying B ans u v k) (hA : ans[k]? = some A) (hm : A.Marked v (mark k)) : Laying B ans u v (k + 1) :=
  ⟨h.rest, h.far, h.below, h.lies, fun i C hi hC => by
    by_cases e : i = k
    · subst e
      rw [hA] at hC
      cases hC
      exact hm
    · exact h.marked i C (by omega) hC⟩
theorem Ans.Lies.cell {v : World} {A : Ans} {q : Nat} (h : A.Lies v) (hq : q < A.n) : A.a = some ⟨A.b, A.o, none⟩ ∧ (∃ y, v.cell? ⟨A.b, A.o + q, none⟩ = some y) ∧ v.frozen? ⟨A.b, A.o + q, none⟩ = false ∧ ∃ cur, v.heap[A.b]? = some (.cells cur 5 (0, 0)) ∧ A.o + q < cur.size := by
  rcases h with h0 | ⟨ha, cur, hc, hs⟩
  · omega
  · refine ⟨ha, ⟨cur[A.o + q]'(by omega), ?_⟩, ?_, cur, hc, by omega⟩
    · rw [cell_of hc]; exact Array.getElem?_eq_getElem _
    · simp [World.frozen?, hc]

theorem mark_eq (k : Nat) : ((k : Int) + 1) % 256 = mark k := by unfold mark; omega
theorem ownsRow_later {w w' : World} {B : Nat} {t : TypeId} {v : Value} {n : Nat} {xs : List Value} (h : w.ownsRow B t 1 v n xs) (hb : Below w.heap.size w w') : w'.ownsRow B t 1 v n xs := by
  refine ⟨h.1, ?_⟩
  rcases h.2 with h2 | ⟨g, cap, cur, hv, hBg, hg, rest⟩
  · exact Or.inl h2
  · exact Or.inr ⟨g, cap, cur, hv, hBg, by rw [hb.block g (Array.getElem?_eq_some_iff.1 hg).1]; exact hg, rest⟩
/-- a row of n marks at the head of a block of bytes -/
def MRow (v : World) (g n : Nat) (z : Int) : Prop := ∃ cur, v.heap[g]? = some (.cells cur 5 (0, 0)) ∧ ∀ q, q < n → cur[q]? = some (.int .u8 z)
theorem MRow.later {v v' : World} {g n : Nat} {z : Int} (h : MRow v g n z) (hb : Below v.heap.size v v') : MRow v' g n z := by
  obtain ⟨cur, h1, h2⟩ := h
  exact ⟨cur, by rw [hb.block g (Array.getElem?_eq_some_iff.1 h1).1]; exact h1, h2⟩
theorem MRow.grown {v v' : World} {g n : Nat} {z : Int} {B : Nat} {w : Value} {m : Nat} {xs : List Value} (h : MRow v g n z) (ho : v.ownsRow B 26 1 w m xs) (hg : v.grownBy v' w.ownBlock) : MRow v' g n z := by
  obtain ⟨cur, h1, h2⟩ := h
  exact ⟨cur, by rw [hg.block g (Array.getElem?_eq_some_iff.1 h1).1 (own_ne ho h1 (by decide))]; exact h1, h2⟩
theorem MRow.cell {v : World} {g n q : Nat} {z : Int} (h : MRow v g n z) (hq : q < n) : v.cell? ⟨g, q, none⟩ = some (.int .u8 z) := by
  obtain ⟨cur, h1, h2⟩ := h
  rw [cell_of h1]; exact h2 q hq
theorem marked_bytes {v : World} {A : Ans} {z : Int} (hl : A.Lies v) (hm : A.Marked v z) : BytesAt v A.a (List.replicate A.n z) := by
  by_cases h0 : A.n = 0
  · exact Or.inl (by simp [h0])
  · rcases hl with e | ⟨ha, _⟩
    · exact absurd e h0
    · refine Or.inr ⟨A.b, A.o, ha, fun k hk => ?_⟩
      have hk' : k < A.n := by simpa using hk
      rw [hm k hk']
      simp [hk']
theorem marks_snoc (n : Nat) (z : Int) (q : Nat) (hq : q < n + 1) : (List.replicate n z ++ [z]).getD q 0 = z := by
  have e : List.replicate n z ++ [z] = List.replicate (n + 1) z := by rw [List.replicate_succ']
  rw [e]
  simp [hq]
/-- a lengthened list: block, length, capacity -/
abbrev More := Nat × Nat × Nat
def More.val (G : More) : Value := .slice (some ⟨G.1, 0, none⟩) G.2.1 G.2.2
/-- the lengthened lists stand -/
def Mores (v : World) (ans : List (Ans × List Int)) (gs : List More) : Prop := ∀ (j : Nat) (G : More) (x : Ans × List Int), gs[j]? = some G → ans[j]? = some x → G.2.1 = x.1.n + 1 ∧ MRow v G.1 (x.1.n + 1) (mark j)

theorem mores_snoc {v v' : World} {ans : List (Ans × List Int)} {gs : List More} {k g c n : Nat} {x : Ans × List Int} (h : Mores v ans gs) (hl : gs.length = k) (hx : ans[k]? = some x) (hn : n = x.1.n) (hr : MRow v' g (n + 1) (mark k)) (hk : ∀ g n z, MRow v g n z → MRow v' g n z) : Mores v' ans (gs ++ [((g, n + 1, c) : More)]) := fun j G y hG hy => by
  by_cases e : j < gs.length
  · rw [List.getElem?_append_left e] at hG
    obtain ⟨h1, h2⟩ := h j G y hG hy
    exact ⟨h1, hk _ _ _ h2⟩
  · have hj : j = k := by
      have := (List.getElem?_eq_some_iff.1 hG).1
      simp at this
      omega
    subst hj
    rw [← hl, List.getElem?_append_right (Nat.le_refl _), Nat.sub_self] at hG
    simp at hG
    rw [hx] at hy
    cases hy
    subst hG
    subst hn
    exact ⟨rfl, hr⟩
theorem more_at {v : World} {B k j n : Nat} {ma : Option Addr} {mc : Nat} {gs : List More} {ans : List (Ans × List Int)} {x : Ans × List Int} (ho : v.ownsRow B 26 1 (.slice ma k mc) k (gs.map More.val)) (hl : gs.length = k) (hj : j < k) (hx : ans[j]? = some x) (hn : n = x.1.n) (hmo : Mores v ans gs) :
    ∃ gm g c, ma = some ⟨gm, 0, none⟩ ∧ v.cell? ⟨gm, j, none⟩ = some (.slice (some ⟨g, 0, none⟩) (n + 1) c) ∧ MRow v g (n + 1) (mark j) := by
  subst hn
  obtain ⟨gm, cur, e, hg, hc⟩ := row_at ho hj
  have hj' : j < gs.length := by omega
  obtain ⟨h1, h2⟩ := hmo j gs[j] x (List.getElem?_eq_getElem hj') hx
  refine ⟨gm, gs[j].1, gs[j].2.2, e, ?_, h2⟩
  rw [cell_of hg, hc]
  simp [hj', More.val, h1]

set_option maxHeartbeats 4000000 in
set_option maxRecDepth 8000 in
theorem whole_any (K B : Nat) (ans : List (Ans × List Int)) (u : World) (hbook : BookAt u K B ans) (hB : B ≤ u.heap.size) (hm : ans.length ≤ 1000)
    (hlies : ∀ A ∈ ans.map (·.1), A.Lies u) (hhas : ∀ x ∈ ans, x.1.n = x.2.length ∧ BytesAt u x.1.a x.2) (hsz : ∀ x ∈ ans, x.1.n ≤ 16777216) (hbase : ∀ A ∈ ans.map (·.1), A.n ≠ 0 → B ≤ A.b) (hap : (ans.map (·.1)).Pairwise Ans.Apart) :
    Calls Try.prog 26 #[.pointer (some ⟨K, 0, none⟩)] u fun e u' => e = .returned (.bool true) ∧ Below B u u' ∧ Untouched ans u u' := by
  obtain ⟨ra, rc, sa, sc, hK, hR, hW⟩ := hbook
  obtain ⟨m, hmm⟩ : ∃ m, m = ans.length := ⟨_, rfl⟩
  rw [← hmm] at hK hR hW hm
  have HM : Hid (m = ans.length) := hmm
  have HK : Hid (u.heap[K]? = some (.cells #[.slice ra m rc, .slice sa m sc] 49 (0, 0))) := hK
  have HR : Hid (u.ownsRow B 26 1 (.slice ra m rc) m (ans.map fun x => x.1.val)) := hR
  have HW : Hid (u.ownsRow B 9 1 (.slice sa m sc) m (ans.map fun x => Value.string (strOfNums x.2))) := hW
  have HB : Hid (B ≤ u.heap.size) := hB
  have HLI : Hid (∀ A ∈ ans.map (·.1), A.Lies u) := hlies
  have HHA : Hid (∀ x ∈ ans, x.1.n = x.2.length ∧ BytesAt u x.1.a x.2) := hhas
  have HSZ : Hid (∀ x ∈ ans, x.1.n ≤ 16777216) := hsz
  have HBA : Hid (∀ A ∈ ans.map (·.1), A.n ≠ 0 → B ≤ A.b) := hbase
  have HAP : Hid ((ans.map (·.1)).Pairwise Ans.Apart) := hap
  have HIX : Hid (∀ k, k < m → ∃ x, ans[k]? = some x ∧ (ans.map (·.1))[k]? = some x.1) := fun k hk => by
    have hk' : k < ans.length := by rw [← hmm]; exact hk
    exact ⟨ans[k], List.getElem?_eq_getElem hk', by simp [hk']⟩
  clear hK hR hW hmm hB hlies hhas hsz hbase hap
  go_enter Try.func26, Try.ntmps26
  go_wp2_with fail
  go_loopw [3] (fun i v => ∃ k : Nat, k ≤ m ∧ i = .int .i64 k ∧ Hid (Below u.heap.size u v)) (fun i _ => m - (intOf i).toNat)
  case atStart => exact ⟨0, Nat.zero_le _, rfl, Below.refl _ _⟩
  case round =>
    obtain ⟨k, hk, rfl, hbl⟩ := hrel
    by_cases hlt : k < m
    · obtain ⟨x, hx, _⟩ := HIX.out k hlt
      have HX : Hid (ans[k]? = some x) := hx
      obtain ⟨gr, gw, er, ew, c0, c1, c2, c3⟩ := book_at HM.out HK.out HR.out HW.out (stands_below hbl.out) hx
      obtain ⟨hn, hby⟩ := HHA.out x (List.mem_of_getElem? hx)
      have hcv : ∀ nq, (convert 26 9 (.slice x.1.a x.1.n x.1.n)).run Try.prog (wr.drewN nq) = .ok (.string (strOfNums x.2)) (wr.drewN nq) := fun nq => conv_string _ _ _ _ _ hn (bytesAt_drewN (bytesAt_later hbl.out hby) nq)
      obtain ⟨S, hS⟩ : ∃ S, S = strOfNums x.2 := ⟨_, rfl⟩
      rw [← hS] at hcv c3
      clear hS hn hby hx
      rw [er] at c0
      rw [ew] at c1
      clear er ew
      go_wp2
      go_quiet (fail)
      go_wp2
      go_roundw
      case rel => exact ⟨k + 1, by omega, by go_num, below_drewN hbl.out _⟩
      case measure => simp [intOf]; omega
    · obtain rfl : k = m := by omega
      have c0 := book_head HK.out (stands_below hbl.out)
      have HLAY : Hid (Laying B (ans.map (·.1)) u wr 0) := laying_start hbl.out HB.out HLI.out
      clear hlt hk
      go_wp2_with fail
      clear c0 hbl
      go_loopw [4] (fun i v => ∃ k1 : Nat, k1 ≤ k ∧ i = .int .i64 k1 ∧ Hid (Laying B (ans.map (·.1)) u v k1)) (fun i _ => k - (intOf i).toNat)
      case atStart => exact ⟨0, Nat.zero_le _, rfl, HLAY⟩
      case round =>
        clear HLAY
        obtain ⟨k1, hk1, rfl, hlay⟩ := hrel
        have c0 := book_head HK.out hlay.out.rest
        by_cases hlt : k1 < k
        · obtain ⟨x, hx, hx1⟩ := HIX.out k1 hlt
          have HX : Hid (ans[k1]? = some x) := hx
          have HX1 : Hid ((ans.map (·.1))[k1]? = some x.1) := hx1
          have hxs := HSZ.out x (List.mem_of_getElem? hx)
          clear hx hx1
          obtain ⟨⟨Aa, Ab, Ao, An⟩, xz⟩ := x
          simp only at hxs
          go_wp2_with fail
          go_loopw [5] (fun j v => ∃ q : Nat, q ≤ An ∧ j = .int .i64 q ∧ Hid (Laying B (ans.map (·.1)) u v k1) ∧ Hid (∀ p, p < q → v.cell? ⟨Ab, Ao + p, none⟩ = some (.int .u8 (mark k1)))) (fun j _ => An - (intOf j).toNat)
          case atStart => exact ⟨0, Nat.zero_le _, rfl, hlay, fun p hp => by omega⟩
          case round =>
            clear hlay c0
            obtain ⟨q, hq, rfl, hlay, hmk⟩ := hrel
            obtain ⟨gr, gw, er, ew, c0, c1, c2, c3⟩ := book_at HM.out HK.out HR.out HW.out hlay.out.rest HX.out
            rw [er] at c0
            simp only at c2
            clear c1 c3 ew er
            by_cases hql : q < An
            · obtain ⟨ha, ⟨y, hy⟩, hf, cur, hcur, hcs⟩ := (hlay.out.lies _ (List.mem_of_getElem? HX1.out)).cell (q := q) hql
              obtain ⟨_, _, _, cu, hcu, _⟩ := (HLI.out _ (List.mem_of_getElem? HX1.out)).cell (q := q) hql
              simp only at ha hy hf hcur hcs hcu
              have HST : Hid (∀ z, Laying B (ans.map (·.1)) u (wr.setCell ⟨Ab, Ao + q, none⟩ z) k1) := fun z => hlay.out.step HX1.out hql HAP.out HBA.out z ⟨cu, _, hcu⟩
              have HMK : Hid (∀ p, p < q + 1 → (wr.setCell ⟨Ab, Ao + q, none⟩ (.int .u8 (mark k1))).cell? ⟨Ab, Ao + p, none⟩ = some (.int .u8 (mark k1))) := fun p hp => by
                by_cases e : p = q
                · subst e; exact cell_set_same hcur hcs
                · rw [cell_set_other (Or.inr (by omega))]; exact hmk.out p (by omega)
              clear hcur hcs hcu hmk
              subst ha
              have hme := mark_eq k1
              go_wp2
              go_roundw
              case rel => exact ⟨q + 1, by omega, by go_num, HST.out _, HMK.out⟩
              case measure => simp [intOf]; omega
            · obtain rfl : q = An := by omega
              go_wp2
              go_roundw
              case rel => exact ⟨k1 + 1, by omega, by go_num, hlay.out.next HX1.out hmk.out⟩
              case measure => simp [intOf]; omega
        · obtain rfl : k1 = k := by omega
          clear hlt hk1
          obtain ⟨w4, hw4⟩ : ∃ w4, w4 = wr := ⟨_, rfl⟩
          subst hw4
          go_wp2_with fail
          clear c0
          go_loopw [6, 7] (fun mo i v => ∃ (k2 : Nat) (ma : Option Addr) (mc : Nat) (gs : List More), k2 ≤ k1 ∧ i = .int .i64 k2 ∧ mo = .slice ma k2 mc ∧ gs.length = k2 ∧ Hid (v.ownsRow w4.heap.size 26 1 (.slice ma k2 mc) k2 (gs.map More.val)) ∧ Hid (Below w4.heap.size w4 v) ∧ Hid (Mores v ans gs)) (fun _ i _ => k1 - (intOf i).toNat)
          case atStart => exact ⟨0, none, 0, [], Nat.zero_le _, rfl, rfl, rfl, World.ownsRow_nil _ _ _ _, Below.refl _ _, fun j G x h => by simp at h⟩
          case round =>
            obtain ⟨k2, ma, mc, gs, hk2, rfl, rfl, hgl, ho, hbl, hmo⟩ := hrel
            have HGL : Hid (gs.length = k2) := hgl
            have HST : Hid (Stands u wr) := fun b cur t fr ht hb => stands_below hbl.out b cur t fr ht (hlay.out.rest b cur t fr ht hb)
            clear hgl
            by_cases hlt : k2 < k1
            · obtain ⟨x, hx, hx1⟩ := HIX.out k2 hlt
              have HX : Hid (ans[k2]? = some x) := hx
              obtain ⟨gr, gw, er, ew, c0, c1, c2, c3⟩ := book_at HM.out HK.out HR.out HW.out HST.out hx
              have hxs := HSZ.out x (List.mem_of_getElem? hx)
              have HBY : Hid (BytesAt wr x.1.a (List.replicate x.1.n (mark k2))) := bytesAt_later hbl.out (marked_bytes (hlay.out.lies _ (List.mem_of_getElem? hx1)) (hlay.out.marked k2 _ hlt hx1))
              rw [er] at c0
              clear c1 c3 ew er hx hx1
              obtain ⟨⟨Aa, Ab, Ao, An⟩, xz⟩ := x
              simp only at hxs c2
              have hme := mark_eq k2
              obtain ⟨i26, hi26, hy0, hy1, hy2⟩ := info_parts info26
              have HZ : Hid (w4.heap.size ≤ wr.heap.size) := hbl.out.size
              go_wp2_with (first
                | (at_builtin; refine wpList_append_full rfl (.tmp 84) (.tmp 88) rfl Aa An (List.replicate An (mark k2)) (mark k2) rfl rfl (List.length_replicate).symm HBY.out hxs ?_; intro g5 c5 w5 hrow5 hb5 hg5 hg5b; have HROW5 : Hid (MRow w5 g5 (An + 1) (mark k2)) := (by obtain ⟨cur, h1, h2⟩ := hrow5; exact ⟨cur, h1, fun q hq => by rw [h2 q hq, marks_snoc An (mark k2) q hq]⟩); have HB5 : Hid (Below wr.heap.size wr w5) := hb5; clear hrow5 hb5)
                | (at_builtin; go_must (refine wpList_append_lies _ rfl (.tmp 77) (.tmp 90) 46 rfl w4.heap.size 26 i26 _ 1 24 Try.underlying46 hi26 hy0 hy1 hy2 rfl (by omega) (.slice ma k2 mc) k2 _ rfl ((ownsRow_later ho.out HB5.out).alloc _) ⟨w5.heap.size, 0, none⟩ 1 1 [Value.slice (some ⟨g5, 0, none⟩) (An + 1) c5] rfl rfl (World.news_of_block (cs := #[Value.slice (some ⟨g5, 0, none⟩) (An + 1) c5]) (t := 26) (fr := (0, 0)) (heap_alloc_new w5 _)) (fun v hv => by simp at hv; subst hv; rfl) (by omega) (by unfold maxLen; omega) (by omega) (by have := HZ.out; have := HB5.out.size; simp; omega) (w5.heap.size + 1) (by simp) ?_; intro g6 c6 w6 hown6 hgrow6 hat6 hlt6)))
              have hbl6 : Below w4.heap.size w4 w6 := ((below_trans hbl.out HB5.out HZ.out).alloc (by have := HZ.out; have := HB5.out.size; omega) _).grown hgrow6 (by have := HZ.out; have := HB5.out.size; simp; omega) (own_base ho.out)
              have hkeep : ∀ g n z, MRow w5 g n z → MRow w6 g n z := fun g n z h => (h.later ((Below.refl _ _).alloc (Nat.le_refl _) _)).grown ((ownsRow_later ho.out HB5.out).alloc _) hgrow6
              have hmo6 := mores_snoc (c := c5) hmo.out HGL.out HX.out rfl (hkeep _ _ _ HROW5.out) (fun g n z h => hkeep g n z (h.later HB5.out))
              go_roundw
              case rel => exact ⟨k2 + 1, some ⟨g6, 0, none⟩, c6, gs ++ [((g5, An + 1, c5) : More)], by omega, by go_num, rfl, by simp [HGL.out], by rw [List.map_append]; exact hown6, hbl6, hmo6⟩
              case measure => simp [intOf]; omega
            · obtain rfl : k2 = k1 := by omega
              have HFIN : Hid (Below B u wr ∧ Untouched ans u wr) :=
                ⟨hlay.out.below.trans (hbl.out.mono (Nat.le_trans HB.out hlay.out.below.size)), fun F cur fr hF hA => by
                  have h1 := hlay.out.far F cur fr hF hA
                  rw [hbl.out.block F (Array.getElem?_eq_some_iff.1 h1).1]; exact h1⟩
              have c0 := book_head HK.out HST.out
              clear hlt hk2
              go_wp2_with fail
              go_loop [8] (fun i => ∃ k3 : Nat, k3 ≤ k2 ∧ i = .int .i64 k3) (fun i => k2 - (intOf i).toNat)
              case atStart => exact ⟨0, Nat.zero_le _, rfl⟩
              case round =>
                obtain ⟨k3, hk3, rfl⟩ := hrel
                by_cases hlt : k3 < k2
                · obtain ⟨x, hx, hx1⟩ := HIX.out k3 hlt
                  have HX : Hid (ans[k3]? = some x) := hx
                  obtain ⟨gr, gw, er, ew, d0, d1, d2, d3⟩ := book_at HM.out HK.out HR.out HW.out HST.out hx
                  have hxs := HSZ.out x (List.mem_of_getElem? hx)
                  have HLI4 : Hid (x.1.Lies w4) := hlay.out.lies _ (List.mem_of_getElem? hx1)
                  have HMK4 : Hid (x.1.Marked w4 (mark k3)) := hlay.out.marked k3 _ hlt hx1
                  obtain ⟨gm, g, c, em, d4, hrow⟩ := more_at ho.out HGL.out hlt hx rfl hmo.out
                  have HROW : Hid (MRow wr g (x.1.n + 1) (mark k3)) := hrow
                  subst er
                  clear d1 d3 ew hx hx1 hrow d0
                  obtain ⟨⟨Aa, Ab, Ao, An⟩, xz⟩ := x
                  simp only at hxs d2 d4
                  subst em
                  have hme := mark_eq k3
                  go_wp2_with fail
                  go_loop [9] (fun i => ∃ q : Nat, q ≤ An + 1 ∧ i = .int .i64 q) (fun i => An + 1 - (intOf i).toNat)
                  case atStart => exact ⟨0, Nat.zero_le _, rfl⟩
                  case round =>
                    obtain ⟨q, hq, rfl⟩ := hrel
                    by_cases hql : q < An + 1
                    · have d5 := HROW.out.cell hql
                      by_cases hqn : q < An
                      · have ha := (HLI4.out.cell (q := q) hqn).1
                        have d6 : wr.cell? ⟨Ab, Ao + q, none⟩ = some (.int .u8 (mark k3)) := by
                          have h1 := HMK4.out q hqn
                          exact (hbl.out.cell (p := ⟨Ab, Ao + q, none⟩) (World.block_lt_of_cell? w4 _ h1)).trans h1
                        simp only at ha
                        subst ha
                        go_wp2
                        go_round
                        case rel => exact ⟨q + 1, by omega, by go_num⟩
                        case measure => simp [intOf]; omega
                      · go_wp2
                        go_round
                        case rel => exact ⟨q + 1, by omega, by go_num⟩
                        case measure => simp [intOf]; omega
                    · go_wp2
                      go_round
                      case rel => exact ⟨k3 + 1, by omega, by go_num⟩
                      case measure => simp [intOf]; omega
                · go_wp2
                  go_ret
                  exact ⟨rfl, HFIN.out⟩
end Go.Proofs.Ytfncocffnfebbaa
