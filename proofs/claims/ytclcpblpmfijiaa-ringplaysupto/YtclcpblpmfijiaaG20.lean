/- A pair's plays, call by call. -/
import Derived.Test.YtclcpblpmfijiaaG19
namespace Go.Proofs.Ytclcpblpmfijiaa
open Go.RowKit Go.Maps Rg
attribute [local go_sem ↓] Go.wp_at_zero Go.wp_at_succ

def opV (kd : Int) (tw : Bool) (x : Int) : Value := .agg #[.int .i64 kd, .bool tw, .int .i64 x]
def OBx (w : World) (S : Nat) (kd : Int) (tw : Bool) (x : Int) : Prop := w.heap[S]? = some (.cells #[.int .i64 kd, .bool tw, .int .i64 x] 56 (0, 0))
theorem OBx.cells {w : World} {S : Nat} {kd : Int} {tw : Bool} {x : Int} (h : OBx w S kd tw x) : w.cell? ⟨S, 0, none⟩ = some (.int .i64 kd) ∧ w.cell? ⟨S, 2, none⟩ = some (.int .i64 x) := by
  simp [World.cell?, show w.heap[S]? = _ from h]
/-- what a call leaves -/
def PlPost (p : Nat) (T : Tg) (u : World) (D n : Nat) (w' : World) : Prop :=
  ∃ T' B' R' Q' N' f' VQ' VL' VW' l' LL', PAt p T' w' D B' R' Q' N' f' VQ' VL' VW' l' l' LL' ∧ Ext p T T' u w' ∧ LL'.length ≤ n + 2
theorem new_op (u : World) (kd : Int) (tw : Bool) (x : Int) : ∃ w1, u.alloc (.cells #[.int .i64 kd, .bool tw, .int .i64 x] 56) = w1 ∧ OBx w1 u.heap.size kd tw x ∧ Below u.heap.size u w1 :=
  ⟨_, rfl, heap_alloc_new u _, below_new u _⟩
theorem rpush_all {w : World} {X : Nat → Prop} {Q n : Nat} {V : Value} {l : List Int} (h : RefB w Q n V) (hl : LAtX X w V (ints l)) (h64 : l.length ≤ 64) (x : Int) :
    Calls Try.prog 27 #[.pointer (some ⟨Q, 0, none⟩), .int .i64 x] w fun e w' => e = .returned (.int .i64 (if l.length = n then 180 else 0)) ∧ ∃ V', RefB w' Q n V' ∧ LAtX (fun b => w.heap.size ≤ b ∨ X b) w' V' (ints (if l.length = n then l else l ++ [x])) ∧ FrP (fun k => k = Q) w w' := by
  by_cases e : l.length = n
  · rw [if_pos e, if_pos e]
    refine (rpush_full h hl.1 e x).mono ?_
    rintro e w' ⟨rfl, hb⟩
    have h2 : LAtX X w' V (ints l) := hl.keep (fun b _ hlt => hb.block b hlt)
    exact ⟨rfl, V, h.same (hb.block Q h.lt), ⟨h2.1, fun b off n c e hn => .inr (h2.2 b off n c e hn)⟩, FrP.of_below _ hb⟩
  · rw [if_neg e, if_neg e]
    refine (rpush_any h hl.1 h64 e x).mono ?_
    rintro e w' ⟨rfl, V', h1, h2, h3⟩
    exact ⟨rfl, V', h1, ⟨h2.1, fun b off n c e hn => .inl (h2.2 b off n c e hn)⟩, h3⟩
section
variable {p : Nat} {T : Tg} {u : World} {D B R Q N f : Nat} {VQ VL VW : Value} {l l2 : List Int} {LL : List (List Int)}
theorem PAt.dd (h : PAt p T u D B R Q N f VQ VL VW l l2 LL) : u.cell? ⟨D, 0, none⟩ = some (.pointer (some ⟨B, 0, none⟩)) ∧ u.cell? ⟨D, 1, none⟩ = some (.pointer (some ⟨Q, 0, none⟩)) := ⟨h.d.cells.1, h.d.cells.2.1⟩
set_option maxRecDepth 8000 in
set_option maxHeartbeats 3200000 in
theorem plays_push (h : PAt p T u D B R Q N f VQ VL VW l l LL) (tw : Bool) (x : Int) :
    Calls Try.prog 20 #[.pointer (some ⟨D, 0, none⟩), opV 1 tw x] u fun e w' => e = .returned (.bool true) ∧ PlPost p T u D LL.length w' := by
  obtain ⟨w1, hw1, ob1, hb1⟩ := new_op u 1 tw x
  obtain ⟨S, hS⟩ : ∃ S, u.heap.size = S := ⟨_, rfl⟩
  rw [hS] at ob1
  obtain ⟨ec, hec⟩ : ∃ ec : Int, (if l.length = N then 180 else 0) = ec := ⟨_, rfl⟩
  have h64 : l.length ≤ 64 := Nat.le_trans h.g.l h.g.n
  have hSB : S ≠ B ∧ S ≠ R := ⟨fun e => by have := h.g.b.lt; omega, fun e => by have := h.g.r.lt; omega⟩
  have HPU : Hid (∀ w, Below u.heap.size u w → OBx w S 1 tw x → Calls Try.prog 15 #[.pointer (some ⟨B, 0, none⟩), .int .i64 x] w fun e w' => e = .returned (.int .i64 ec) ∧ PAt p T w' D B R Q N f VQ VL VW (if l.length = N then l else l ++ [x]) l LL ∧ Ext p T T u w' ∧ OBx w' S 1 tw x) := fun w hb ho => by
    refine (push_any (h.later hb).g x).mono ?_
    rintro e w' ⟨rfl, hto⟩
    obtain ⟨h1, h2⟩ := (h.later hb).ring hto
    exact ⟨by rw [hec], h1, (Ext.of_below p T hb).trans h2, (hto.2.block S (Array.getElem?_eq_some_iff.1 ho).1 (fun e => e.elim hSB.1 hSB.2)).trans ho⟩
  have HRU : Hid (∀ w, PAt p T w D B R Q N f VQ VL VW (if l.length = N then l else l ++ [x]) l LL → Ext p T T u w → Calls Try.prog 27 #[.pointer (some ⟨Q, 0, none⟩), .int .i64 x] w fun e w' => e = .returned (.int .i64 ec) ∧ PlPost p T u D LL.length w') := fun w hp hx => by
    refine (rpush_all hp.q hp.lq h64 x).mono ?_
    rintro e w' ⟨rfl, V', h1, h2, h3⟩
    obtain ⟨h4, h5⟩ := hp.ref h1 h2 h3
    exact ⟨by rw [hec], _, _, _, _, _, _, _, _, _, _, _, h4, hx.trans h5, by omega⟩
  obtain ⟨b0, b2⟩ := ob1.cells
  obtain ⟨d0, d1⟩ := (h.later hb1).dd
  have HO : Hid (Below u.heap.size u w1 ∧ OBx w1 S 1 tw x) := (⟨hb1, ob1⟩ : _ ∧ _)
  clear h hb1 ob1 hec hSB h64
  unfold opV
  go_enter Try.func20, Try.ntmps20
  go_upto_region 3 with fail
  go_region_with (first
    | (go_at_call 15; refine (HPU.out w1.drew (below_step HO.out.1 (drew_below w1 1)) HO.out.2).mono ?_; rintro e w2 ⟨rfl, hp2, hx2, ho2⟩; have HP2 : Hid (_ ∧ _) := (⟨hp2, hx2⟩ : _ ∧ _); obtain ⟨b0, b2⟩ := ho2.cells; obtain ⟨d0, d1⟩ := hp2.dd; clear hp2 hx2 ho2)
    | (go_at_call 27; refine (HRU.out _ HP2.out.1 HP2.out.2).mono ?_; rintro e w3 ⟨rfl, hp3⟩; have HP3 : Hid _ := hp3; clear hp3))
  all_goals
    go_wp2_with fail
    go_ret
    exact ⟨rfl, HP3.out⟩
end
end Go.Proofs.Ytclcpblpmfijiaa
