/- A table that is being read: its lists in memory, each in a block of its own. -/
import Derived.Test.YtdngileimmgdnaaDoorG13
namespace Go.Proofs.YtdngileimmgdnaaDoor
open Go.RowKit

theorem own_at {u : World} {base : Nat} {t : TypeId} {V : Value} {k : Nat} {xs : List Value} (hr : u.ownsRow base t 1 V k xs) : ∀ b, V.ownBlock = some b → base ≤ b ∧ b < u.heap.size ∧ TyB u t b := fun b hb => by
  rcases hr.2 with ⟨rfl, _⟩ | ⟨g, cap, cur, rfl, hbg, hg, _⟩
  · simp [Value.ownBlock] at hb
  · simp [Value.ownBlock] at hb
    subst hb
    exact ⟨hbg, (Array.getElem?_eq_some_iff.1 hg).1, ⟨_, _, hg⟩⟩
theorem own_1 {u : World} {base : Nat} {t : TypeId} {V : Value} {k : Nat} {xs : List Value} (hr : u.ownsRow base t 1 V k xs) : V.oneCell' = true := by
  rcases hr.2 with ⟨rfl, _⟩ | ⟨g, cap, cur, rfl, _⟩ <;> rfl
theorem own_f {u : World} {base : Nat} {t : TypeId} {V : Value} {k : Nat} {xs : List Value} (hr : u.ownsRow base t 1 V k xs) : ∃ a c, V = .slice a k c ∧ k ≤ c ∧ c ≤ 9223372036854775807 := by
  rcases hr.2 with ⟨rfl, h0⟩ | ⟨g, cap, cur, rfl, _, _, h1, h2, _⟩
  · exact ⟨none, 0, by rw [h0], by omega, by omega⟩
  · exact ⟨_, _, rfl, h1, by simp only [maxLen] at h2; omega⟩
theorem own_keep {u v : World} {base : Nat} {t : TypeId} {V : Value} {k : Nat} {xs : List Value} (hr : u.ownsRow base t 1 V k xs) (hk : ∀ b, V.ownBlock = some b → TyB u t b → v.heap[b]? = u.heap[b]?) : v.ownsRow base t 1 V k xs :=
  ownsRow_keep hr (fun b hb _ _ => hk b hb (own_at hr b hb).2.2)
/-- THE LISTS -/
structure Tm (base H T : Nat) (f : Nat → Int) (R : List (List Int)) (fo en : List Nat) (V1 V2 V3 : Value) (Us : List Value) (u : World) : Prop where
  db : DB u T f V1 V2 V3
  tH : T < H ∧ base ≤ T ∧ H ≤ u.heap.size
  nx : u.ownsRow base 41 1 V1 R.length Us
  row : ∀ (t : Nat) (r : List Int) (V : Value), R[t]? = some r → Us[t]? = some V → (∃ b, V = .slice (some ⟨b, 0, none⟩) r.length r.length ∧ b < H) ∧ u.ownsRow base 3 1 V r.length (ints r)
  inj : ∀ (t t' : Nat) (b : Nat) (V V' : Value), Us[t]? = some V → Us[t']? = some V' → V.ownBlock = some b → V'.ownBlock = some b → t = t'
  fo : u.ownsRow base 27 1 V2 fo.length (u32s fo)
  en : u.ownsRow base 27 1 V3 en.length (u32s en)
  own : (∀ b, V1.ownBlock = some b → b < H) ∧ (∀ b, V2.ownBlock = some b → b < H) ∧ (∀ b, V3.ownBlock = some b → b < H) ∧ ∀ b, V2.ownBlock = some b → V3.ownBlock ≠ some b
section
variable {base H T : Nat} {f : Nat → Int} {R : List (List Int)} {fo en : List Nat} {V1 V2 V3 : Value} {Us : List Value} {u v : World}
theorem Tm.lenUs (h : Tm base H T f R fo en V1 V2 V3 Us u) : Us.length = R.length := by have := h.nx.1; omega
theorem Tm.keep (h : Tm base H T f R fo en V1 V2 V3 Us u) (hs : u.heap.size ≤ v.heap.size) (hk : ∀ b t, b < H → TyB u t b → t ≠ 79 → (t = 26 → b = T) → v.heap[b]? = u.heap[b]?) : Tm base H T f R fo en V1 V2 V3 Us v := by
  have hr : ∀ {t : TypeId} {V : Value} {k : Nat} {xs : List Value}, u.ownsRow base t 1 V k xs → (∀ b, V.ownBlock = some b → b < H) → t ≠ 79 → t ≠ 26 → v.ownsRow base t 1 V k xs := fun hr hb ht ht2 => own_keep hr (fun b h1 h2 => hk b _ (hb b h1) h2 ht (fun e => absurd e ht2))
  refine ⟨h.db.same (hk T _ h.tH.1 h.db.ty (by decide) (fun _ => rfl)), ⟨h.tH.1, h.tH.2.1, by have := h.tH.2.2; omega⟩, hr h.nx h.own.1 (by decide) (by decide), fun t r V h1 h2 => ?_, h.inj, hr h.fo h.own.2.1 (by decide) (by decide), hr h.en h.own.2.2.1 (by decide) (by decide), h.own⟩
  obtain ⟨⟨b, e, hb⟩, ho⟩ := h.row t r V h1 h2
  exact ⟨⟨b, e, hb⟩, hr ho (fun b' hb' => by rw [e] at hb'; simp [Value.ownBlock] at hb'; omega) (by decide) (by decide)⟩
theorem Tm.later (h : Tm base H T f R fo en V1 V2 V3 Us u) (hb : Below u.heap.size u v) : Tm base H T f R fo en V1 V2 V3 Us v :=
  h.keep hb.size (fun b _ hl _ _ _ => hb.block b (by have := h.tH.2.2; omega))
theorem Tm.grown (h : Tm base H T f R fo en V1 V2 V3 Us u) {P : Nat} (hP : TyB u 79 P) (hg : u.grownBy v (some P)) : Tm base H T f R fo en V1 V2 V3 Us v :=
  h.keep hg.size (fun b t hl ht hne _ => hg.block b (by have := h.tH.2.2; omega) (fun e => by
    cases e
    exact hne (TyB.ne ht hP)))
/-- a row more -/
theorem Tm.next (h : Tm base H T f R fo en V1 V2 V3 Us u) {r : List Int} {b : Nat} (hb : H ≤ b) (ho : u.ownsRow base 3 1 (.slice (some ⟨b, 0, none⟩) r.length r.length) r.length (ints r)) {u1 w3 : World} (h1 : Below u.heap.size u u1) {V1' : Value} (ho1 : w3.ownsRow base 41 1 V1' (R.length + 1) (Us ++ [.slice (some ⟨b, 0, none⟩) r.length r.length])) (hg : u1.grownBy w3 V1.ownBlock) :
    Tm base w3.heap.size T f (R ++ [r]) fo en V1' V2 V3 (Us ++ [.slice (some ⟨b, 0, none⟩) r.length r.length]) (w3.setCell ⟨T, 256, none⟩ V1') := by
  have hu := h.lenUs
  have hs1 := h1.size
  have hs3 := hg.size
  have hH := h.tH
  have hbl := (own_at ho b (by simp [Value.ownBlock])).2.1
  have e3 : ∀ c t, c < u.heap.size → TyB u t c → t ≠ 41 → w3.heap[c]? = u.heap[c]? := fun c t hc ht hne =>
    (hg.block c (by omega) (fun e => hne (TyB.ne ht (own_at h.nx c e.symm).2.2))).trans (h1.block c hc)
  have hD3 : DB w3 T f V1 V2 V3 := h.db.same (e3 T _ h.db.lt h.db.ty (by decide))
  have e4 : ∀ c, c ≠ T → (w3.setCell ⟨T, 256, none⟩ V1').heap[c]? = w3.heap[c]? := fun c hc => Below.heap_setCell w3 ⟨T, 256, none⟩ _ c hc
  have hkp : ∀ {t : TypeId} {V : Value} {k : Nat} {xs : List Value}, u.ownsRow base t 1 V k xs → t ≠ 41 → t ≠ 26 → (w3.setCell ⟨T, 256, none⟩ V1').ownsRow base t 1 V k xs := fun hr ht ht2 => own_keep hr (fun c hc hty => (e4 c (fun e => by subst e; exact ht2 (TyB.ne hty h.db.ty))).trans (e3 c _ (own_at hr c hc).2.1 hty ht))
  have hz : (w3.setCell ⟨T, 256, none⟩ V1').heap.size = w3.heap.size := by simp [World.setCell]
  refine ⟨hD3.put1 _, ⟨by omega, hH.2.1, by omega⟩, ?_, ?_, ?_, hkp h.fo (by decide) (by decide), hkp h.en (by decide) (by decide), ⟨fun c hc => (own_at ho1 c hc).2.1, fun c hc => by have := h.own.2.1 c hc; omega, fun c hc => by have := h.own.2.2.1 c hc; omega, h.own.2.2.2⟩⟩
  · rw [List.length_append]
    exact own_keep ho1 (fun c _ hty => e4 c (fun e => by subst e; exact absurd (TyB.ne hty hD3.ty) (by decide)))
  · intro t r' V' hr' hV'
    by_cases ht : t < R.length
    · rw [List.getElem?_append_left ht] at hr'
      rw [List.getElem?_append_left (by omega)] at hV'
      obtain ⟨⟨c, e, hc⟩, hri⟩ := h.row t r' V' hr' hV'
      exact ⟨⟨c, e, by omega⟩, hkp hri (by decide) (by decide)⟩
    · rw [List.getElem?_append_right (by omega)] at hr'
      rw [List.getElem?_append_right (by omega), hu] at hV'
      have ht0 : t - R.length = 0 := by
        have := (List.getElem?_eq_some_iff.1 hr').1
        simp at this
        omega
      rw [ht0] at hr' hV'
      simp at hr' hV'
      subst hr' hV'
      exact ⟨⟨b, rfl, by omega⟩, hkp ho (by decide) (by decide)⟩
  · intro t t' c V V' ht ht' hc hc'
    have old : ∀ (s : Nat) (X : Value), (Us ++ [Value.slice (some ⟨b, 0, none⟩) r.length r.length])[s]? = some X → s < R.length → X.ownBlock = some c → Us[s]? = some X ∧ c < H := fun s X hX hs hXc => by
      rw [List.getElem?_append_left (by omega)] at hX
      obtain ⟨rr, hrr⟩ : ∃ rr, R[s]? = some rr := ⟨_, List.getElem?_eq_getElem hs⟩
      obtain ⟨⟨q, e, hq⟩, _⟩ := h.row s rr X hrr hX
      rw [e] at hXc
      simp [Value.ownBlock] at hXc
      exact ⟨hX, by omega⟩
    have new : ∀ (s : Nat) (X : Value), (Us ++ [Value.slice (some ⟨b, 0, none⟩) r.length r.length])[s]? = some X → ¬ s < R.length → X.ownBlock = some c → s = R.length ∧ c = b := fun s X hX hs hXc => by
      rw [List.getElem?_append_right (by omega), hu] at hX
      have ht0 : s - R.length = 0 := by
        have := (List.getElem?_eq_some_iff.1 hX).1
        simp at this
        omega
      rw [ht0] at hX
      simp at hX
      subst hX
      simp [Value.ownBlock] at hXc
      exact ⟨by omega, hXc.symm⟩
    by_cases h1 : t < R.length <;> by_cases h2 : t' < R.length
    · exact h.inj t t' c V V' (old t V ht h1 hc).1 (old t' V' ht' h2 hc').1 hc hc'
    · have a1 := (old t V ht h1 hc).2
      have a2 := (new t' V' ht' h2 hc').2
      omega
    · have a1 := (old t' V' ht' h2 hc').2
      have a2 := (new t V ht h1 hc).2
      omega
    · have a1 := (new t V ht h1 hc).1
      have a2 := (new t' V' ht' h2 hc').1
      omega
/-- a word more: what is met -/
theorem Tm.found (h : Tm base H T f R fo en V1 V2 V3 Us u) {u1 w3 : World} (h1 : Below u.heap.size u u1) {x : Nat} {V2' : Value} (ho : w3.ownsRow base 27 1 V2' (fo.length + 1) (u32s (fo ++ [x]))) (hg : u1.grownBy w3 V2.ownBlock) (hat : Here u1 V2 V2') :
    Tm base w3.heap.size T f R (fo ++ [x]) en V1 V2' V3 Us (w3.setCell ⟨T, 257, none⟩ V2') := by
  have hs1 := h1.size
  have hs3 := hg.size
  have hH := h.tH
  have e3 : ∀ c, c < u.heap.size → V2.ownBlock ≠ some c → w3.heap[c]? = u.heap[c]? := fun c hc hne => (hg.block c (by omega) (fun e => hne e.symm)).trans (h1.block c hc)
  have hty : ∀ c t, TyB u t c → t ≠ 27 → V2.ownBlock ≠ some c := fun c t ht hne e => hne (TyB.ne ht (own_at h.fo c e).2.2)
  have hD3 : DB w3 T f V1 V2 V3 := h.db.same (e3 T h.db.lt (hty T _ h.db.ty (by decide)))
  have e4 : ∀ c, c ≠ T → (w3.setCell ⟨T, 257, none⟩ V2').heap[c]? = w3.heap[c]? := fun c hc => Below.heap_setCell w3 ⟨T, 257, none⟩ _ c hc
  have hkp : ∀ {t : TypeId} {V : Value} {k : Nat} {xs : List Value}, u.ownsRow base t 1 V k xs → (∀ c, V.ownBlock = some c → V2.ownBlock ≠ some c) → t ≠ 26 → (w3.setCell ⟨T, 257, none⟩ V2').ownsRow base t 1 V k xs := fun hr h2 ht2 => own_keep hr (fun c hc hty => (e4 c (fun e => by subst e; exact ht2 (TyB.ne hty h.db.ty))).trans (e3 c (own_at hr c hc).2.1 (h2 c hc)))
  have hz : (w3.setCell ⟨T, 257, none⟩ V2').heap.size = w3.heap.size := by simp [World.setCell]
  refine ⟨hD3.put2 _, ⟨by omega, hH.2.1, by omega⟩, hkp h.nx (fun c hc => hty c _ (own_at h.nx c hc).2.2 (by decide)) (by decide), ?_, h.inj, ?_, hkp h.en (fun c hc e => h.own.2.2.2 c e hc) (by decide), ⟨fun c hc => by have := h.own.1 c hc; omega, fun c hc => (own_at ho c hc).2.1, fun c hc => by have := h.own.2.2.1 c hc; omega, fun c hc hc3 => ?_⟩⟩
  · intro t r V hr hV
    obtain ⟨⟨c, e, hc⟩, hri⟩ := h.row t r V hr hV
    exact ⟨⟨c, e, by omega⟩, hkp hri (fun c hc => hty c _ (own_at hri c hc).2.2 (by decide)) (by decide)⟩
  · rw [List.length_append]
    exact own_keep ho (fun c _ hty => e4 c (fun e => by subst e; exact absurd (TyB.ne hty hD3.ty) (by decide)))
  · rcases hat c hc with h2 | h2
    · exact h.own.2.2.2 c h2 hc3
    · have := h.own.2.2.1 c hc3; omega
/-- a word more: what is met at an end -/
theorem Tm.ends (h : Tm base H T f R fo en V1 V2 V3 Us u) {u1 w3 : World} (h1 : Below u.heap.size u u1) {x : Nat} {V3' : Value} (ho : w3.ownsRow base 27 1 V3' (en.length + 1) (u32s (en ++ [x]))) (hg : u1.grownBy w3 V3.ownBlock) (hat : Here u1 V3 V3') :
    Tm base w3.heap.size T f R fo (en ++ [x]) V1 V2 V3' Us (w3.setCell ⟨T, 258, none⟩ V3') := by
  have hs1 := h1.size
  have hs3 := hg.size
  have hH := h.tH
  have e3 : ∀ c, c < u.heap.size → V3.ownBlock ≠ some c → w3.heap[c]? = u.heap[c]? := fun c hc hne => (hg.block c (by omega) (fun e => hne e.symm)).trans (h1.block c hc)
  have hty : ∀ c t, TyB u t c → t ≠ 27 → V3.ownBlock ≠ some c := fun c t ht hne e => hne (TyB.ne ht (own_at h.en c e).2.2)
  have hD3 : DB w3 T f V1 V2 V3 := h.db.same (e3 T h.db.lt (hty T _ h.db.ty (by decide)))
  have e4 : ∀ c, c ≠ T → (w3.setCell ⟨T, 258, none⟩ V3').heap[c]? = w3.heap[c]? := fun c hc => Below.heap_setCell w3 ⟨T, 258, none⟩ _ c hc
  have hkp : ∀ {t : TypeId} {V : Value} {k : Nat} {xs : List Value}, u.ownsRow base t 1 V k xs → (∀ c, V.ownBlock = some c → V3.ownBlock ≠ some c) → t ≠ 26 → (w3.setCell ⟨T, 258, none⟩ V3').ownsRow base t 1 V k xs := fun hr h2 ht2 => own_keep hr (fun c hc hty => (e4 c (fun e => by subst e; exact ht2 (TyB.ne hty h.db.ty))).trans (e3 c (own_at hr c hc).2.1 (h2 c hc)))
  have hz : (w3.setCell ⟨T, 258, none⟩ V3').heap.size = w3.heap.size := by simp [World.setCell]
  refine ⟨hD3.put3 _, ⟨by omega, hH.2.1, by omega⟩, hkp h.nx (fun c hc => hty c _ (own_at h.nx c hc).2.2 (by decide)) (by decide), ?_, h.inj, hkp h.fo (fun c hc e => h.own.2.2.2 c hc e) (by decide), ?_, ⟨fun c hc => by have := h.own.1 c hc; omega, fun c hc => by have := h.own.2.1 c hc; omega, fun c hc => (own_at ho c hc).2.1, fun c hc hc3 => ?_⟩⟩
  · intro t r V hr hV
    obtain ⟨⟨c, e, hc⟩, hri⟩ := h.row t r V hr hV
    exact ⟨⟨c, e, by omega⟩, hkp hri (fun c hc => hty c _ (own_at hri c hc).2.2 (by decide)) (by decide)⟩
  · rw [List.length_append]
    exact own_keep ho (fun c _ hty => e4 c (fun e => by subst e; exact absurd (TyB.ne hty hD3.ty) (by decide)))
  · rcases hat c hc3 with h2 | h2
    · exact h.own.2.2.2 c hc h2
    · have := h.own.2.1 c hc; omega
/-- it is read so -/
theorem Tm.read (h : Tm base H T f R fo en V1 V2 V3 Us u) (bf : ∀ x ∈ fo, x < 4294967296) (be : ∀ x ∈ en, x < 4294967296) : DfAt u ⟨f, R, fo, en⟩ V1 V2 V3 Us := by
  refine ⟨owns_lat h.nx, h.lenUs, fun s U hU => ?_, owns_lat h.fo, owns_lat h.en, bf, be⟩
  have hs : s < R.length := by have := (List.getElem?_eq_some_iff.1 hU).1; have := h.lenUs; omega
  have hr : R[s]? = some ((⟨f, R, fo, en⟩ : Dt).row s) := by
    unfold Dt.row
    simp only
    rw [List.getD_eq_getElem?_getD, List.getElem?_eq_getElem hs]
    rfl
  exact owns_lat (h.row s _ U hr hU).2
end
end Go.Proofs.YtdngileimmgdnaaDoor
