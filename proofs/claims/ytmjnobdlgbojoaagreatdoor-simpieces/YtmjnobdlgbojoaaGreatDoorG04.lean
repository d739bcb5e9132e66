
import Derived.Test.YtmjnobdlgbojoaaGreatDoorG02
import Derived.Test.YtmjnobdlgbojoaaGreatDoorG03
import Derived.Lib.IndexMore
import Derived.Deep.RegionHeld3
import Derived.Deep.DrawnRows
import Derived.Deep.DeepCutAuto
namespace Go.Proofs.YtmjnobdlgbojoaaGreatDoor
open Go.RowKit
attribute [local go_sem ↓] Go.wp_at_zero Go.wp_at_succ
theorem word_zero (i : Nat) : ((Oct.word Oct.none i : Nat) : Int) = 0 := by rw [show Oct.none = fun _ => false from rfl, Oct.word_none]; rfl
theorem St.put4_ret2 {w u : World} {R V : Nat} {s : Oct.S} (h : St w u R V s) (f : Func) (hf : f.results = #[.cell 2 28, .tmp 3]) {a : Act} {x : Value} (hd : a.defers = []) (ha : a.tmps[2]?.getD undef = .pointer (some ⟨R, 0, none⟩)) (hx : a.tmps[3]?.getD undef = x) (hR : w.heap.size ≤ R) :
    bodyPost Tryz.prog f (fun e w' => e = .returned (.tuple #[setV Oct.none, x]) ∧ Below w.heap.size w w') .ret a ((((u.setCell ⟨R, 0, none⟩ (.int .u64 0)).setCell ⟨R, 1, none⟩ (.int .u64 0)).setCell ⟨R, 2, none⟩ (.int .u64 0)).setCell ⟨R, 3, none⟩ (.int .u64 0)) := by
  have h2 := h.ret2 f hf hd ha hx hR Oct.none Oct.none (fun _ _ => rfl)
  unfold put4 at h2
  rw [word_zero, word_zero, word_zero, word_zero] at h2
  exact h2
set_option maxRecDepth 4000 in
set_option maxHeartbeats 1000000 in
theorem class_no (n : ByteArray) (w : World) (halpha : (n.toList == [97, 108, 112, 104, 97]) = false) (hdigit : (n.toList == [100, 105, 103, 105, 116]) = false) (halnum : (n.toList == [97, 108, 110, 117, 109]) = false) (hupper : (n.toList == [117, 112, 112, 101, 114]) = false) (hlower : (n.toList == [108, 111, 119, 101, 114]) = false) (hxdigit : (n.toList == [120, 100, 105, 103, 105, 116]) = false) (hblank : (n.toList == [98, 108, 97, 110, 107]) = false) (hspace : (n.toList == [115, 112, 97, 99, 101]) = false) (hcntrl : (n.toList == [99, 110, 116, 114, 108]) = false) (hgraph : (n.toList == [103, 114, 97, 112, 104]) = false) (hprint : (n.toList == [112, 114, 105, 110, 116]) = false) (hpunct : (n.toList == [112, 117, 110, 99, 116]) = false) :
    Calls Tryz.prog 106 #[.string n] w fun e w' => e = .returned (.tuple #[setV Oct.none, .int .i64 30]) ∧ Below w.heap.size w w' := by
  obtain ⟨u0, hu0⟩ : ∃ u0, u0 = (w.alloc (.cells #[.int .u64 0, .int .u64 0, .int .u64 0, .int .u64 0] 28)).alloc (.cells #[.int .u64 0, .int .u64 0, .int .u64 0, .int .u64 0] 28) := ⟨_, rfl⟩
  have HS : Hid (St w u0 w.heap.size (w.heap.size + 1) Oct.none) := by rw [hu0]; exact start2 w
  have HU : Hid (u0 = _) := hu0
  clear hu0
  go_enter Tryz.func106, Tryz.ntmps106
  go_upto_region 27 with fail
  rw [← HU.out]
  clear HU
  obtain ⟨⟨c0, c1, c2, c3⟩, ⟨f0, f1, f2, f3⟩, ⟨d0, d1, d2, d3⟩, ⟨g0, g1, g2, g3⟩⟩ := HS.out.facts
  go_wp2
  exact HS.out.put4_ret2 Tryz.f106 rfl rfl rfl rfl (Nat.le_refl _)
theorem name_of {n : ByteArray} {l : List UInt8} (h : (n.toList == l) = true) : n = ⟨l.toArray⟩ := by
  have e := eq_of_beq h
  rw [ByteArray.toList_eq] at e
  cases n
  simp at e
  subst e
  simp
def classOf (n : ByteArray) : Oct.S × Nat :=
  if n.toList == [97, 108, 112, 104, 97] then (alpha, 0) else
  if n.toList == [100, 105, 103, 105, 116] then (digit, 0) else
  if n.toList == [97, 108, 110, 117, 109] then (alnum, 0) else
  if n.toList == [117, 112, 112, 101, 114] then (upper, 0) else
  if n.toList == [108, 111, 119, 101, 114] then (lower, 0) else
  if n.toList == [120, 100, 105, 103, 105, 116] then (xdigit, 0) else
  if n.toList == [98, 108, 97, 110, 107] then (blank, 0) else
  if n.toList == [115, 112, 97, 99, 101] then (space, 0) else
  if n.toList == [99, 110, 116, 114, 108] then (cntrl, 0) else
  if n.toList == [103, 114, 97, 112, 104] then (graph, 0) else
  if n.toList == [112, 114, 105, 110, 116] then (print, 0) else
  if n.toList == [112, 117, 110, 99, 116] then (punct, 0) else
  (Oct.none, 30)
theorem class_any (n : ByteArray) (w : World) : Calls Tryz.prog 106 #[.string n] w fun e w' => e = .returned (.tuple #[setV (classOf n).1, .int .i64 ((classOf n).2 : Nat)]) ∧ Below w.heap.size w w' := by
  unfold classOf
  cases halpha : (n.toList == [97, 108, 112, 104, 97]) with
  | true =>
    obtain rfl := name_of halpha
    exact class_alpha w
  | false =>
  simp only [Bool.false_eq_true, if_false]
  cases hdigit : (n.toList == [100, 105, 103, 105, 116]) with
  | true =>
    obtain rfl := name_of hdigit
    exact class_digit w
  | false =>
  simp only [Bool.false_eq_true, if_false]
  cases halnum : (n.toList == [97, 108, 110, 117, 109]) with
  | true =>
    obtain rfl := name_of halnum
    exact class_alnum w
  | false =>
  simp only [Bool.false_eq_true, if_false]
  cases hupper : (n.toList == [117, 112, 112, 101, 114]) with
  | true =>
    obtain rfl := name_of hupper
    exact class_upper w
  | false =>
  simp only [Bool.false_eq_true, if_false]
  cases hlower : (n.toList == [108, 111, 119, 101, 114]) with
  | true =>
    obtain rfl := name_of hlower
    exact class_lower w
  | false =>
  simp only [Bool.false_eq_true, if_false]
  cases hxdigit : (n.toList == [120, 100, 105, 103, 105, 116]) with
  | true =>
    obtain rfl := name_of hxdigit
    exact class_xdigit w
  | false =>
  simp only [Bool.false_eq_true, if_false]
  cases hblank : (n.toList == [98, 108, 97, 110, 107]) with
  | true =>
    obtain rfl := name_of hblank
    exact class_blank w
  | false =>
  simp only [Bool.false_eq_true, if_false]
  cases hspace : (n.toList == [115, 112, 97, 99, 101]) with
  | true =>
    obtain rfl := name_of hspace
    exact class_space w
  | false =>
  simp only [Bool.false_eq_true, if_false]
  cases hcntrl : (n.toList == [99, 110, 116, 114, 108]) with
  | true =>
    obtain rfl := name_of hcntrl
    exact class_cntrl w
  | false =>
  simp only [Bool.false_eq_true, if_false]
  cases hgraph : (n.toList == [103, 114, 97, 112, 104]) with
  | true =>
    obtain rfl := name_of hgraph
    exact class_graph w
  | false =>
  simp only [Bool.false_eq_true, if_false]
  cases hprint : (n.toList == [112, 114, 105, 110, 116]) with
  | true =>
    obtain rfl := name_of hprint
    exact class_print w
  | false =>
  simp only [Bool.false_eq_true, if_false]
  cases hpunct : (n.toList == [112, 117, 110, 99, 116]) with
  | true =>
    obtain rfl := name_of hpunct
    exact class_punct w
  | false =>
  simp only [Bool.false_eq_true, if_false]
  exact class_no n w halpha hdigit halnum hupper hlower hxdigit hblank hspace hcntrl hgraph hprint hpunct
end Go.Proofs.YtmjnobdlgbojoaaGreatDoor


namespace Go.Proofs.YtmjnobdlgbojoaaGreatDoor
open Go.RowKit
inductive Tr where
  | mk (k : Nat) (s : Oct.S) (subs : List Tr) (mn mx : Int)
inductive Rs (α : Type) where
  | ok (x : α) (i : Nat)
  | bad (i e : Nat)
  | out
def empty : Tr := .mk 1 Oct.none [] 0 0
def setT (a : Oct.S) : Tr := .mk 2 a [] 0 0
def times (t : Tr) (l m : Int) : Tr := .mk 5 Oct.none [t] l m
def together (k : Nat) : List Tr → Tr
  | [] => empty
  | [t] => t
  | ts => .mk k Oct.none ts 0 0
def ordinary : Oct.S := Oct.inv Oct.none
section
variable (s : ByteArray)
def isDigit (i : Nat) : Bool := decide (i < s.size) && decide (48 ≤ byt s i) && decide (byt s i ≤ 57)
def digits : Nat → Nat → Nat → Nat × Nat
  | 0, i, n => (n, i)
  | f + 1, i, n => if isDigit s i then digits f (i + 1) (n * 10 + (byt s i - 48)) else (n, i)
def count (o i : Nat) : Rs Nat := if (digits s 3 i 0).2 = i then .bad o 45 else .ok (digits s 3 i 0).1 (digits s 3 i 0).2
def counted (l m : Int) : Bool := decide (0 ≤ l) && decide (l ≤ 255) && (decide (m = -1) || (decide (l ≤ m) && decide (m ≤ 255)))
def countsEnd (o : Nat) (l m : Int) (j : Nat) : Rs (Int × Int) := if sees s j 125 && counted l m then .ok (l, m) j else .bad o 45
def counts (i : Nat) : Rs (Int × Int) :=
  match count s i (i + 1) with
  | .ok l j =>
    if sees s j 44 then
      if sees s (j + 1) 125 then countsEnd s i l (-1) (j + 1)
      else match count s i (j + 1) with
        | .ok m k => countsEnd s i l m k
        | .bad a e => .bad a e
        | .out => .out
    else countsEnd s i l l j
  | .bad a e => .bad a e
  | .out => .out
def repeated (t : Tr) (i : Nat) : Rs Tr :=
  if sees s i 42 then .ok (times t 0 (-1)) (i + 1)
  else if sees s i 43 then .ok (times t 1 (-1)) (i + 1)
  else if sees s i 63 then .ok (times t 0 1) (i + 1)
  else if sees s i 123 then
    match counts s i with
    | .ok (l, m) j => .ok (times t l m) (j + 1)
    | .bad a e => .bad a e
    | .out => .out
  else .ok t i
def escapable (b : Nat) : Bool := decide (b ∈ [46, 91, 93, 40, 41, 42, 43, 63, 123, 125, 124, 94, 36, 92, 47, 45])
def special (i : Nat) : Bool := decide (i + 1 < s.size) && decide (byt s i = 91) && decide (byt s (i + 1) ∈ [58, 46, 61])
def rest (i : Nat) : ByteArray := s.extract i s.size
def className (i : Nat) : ByteArray := ⟨(Lib.cut (rest s (i + 2)).data.toList [58, 93]).1.toArray⟩
def classEnds (i : Nat) : Bool := (Lib.cut (rest s (i + 2)).data.toList [58, 93]).2.2
def class_ (o i : Nat) : Rs Oct.S :=
  if classEnds s i then
    if (classOf (className s i)).2 = 0 then .ok (classOf (className s i)).1 (i + 2 + (className s i).size + 2) else .bad i (classOf (className s i)).2
  else .bad o 43
def span_ (i : Nat) : Rs Oct.S := if decide (byt s (i + 2) < byt s i) || special s (i + 2) then .bad i 43 else .ok (Oct.span (byt s i) (byt s (i + 2))) (i + 3)
def item (o i : Nat) : Rs Oct.S :=
  if i = s.size then .bad o 43
  else if decide (i + 1 < s.size) && decide (byt s i = 91) && decide (byt s (i + 1) = 58) then class_ s o i
  else if special s i then .bad i 43
  else if decide (i + 2 < s.size) && decide (byt s (i + 1) = 45) && decide (byt s (i + 2) ≠ 93) then span_ s i
  else .ok (Oct.has [byt s i]) (i + 1)
def setLoop (o : Nat) : Nat → Oct.S → Nat → Rs Oct.S
  | 0, _, _ => .out
  | f + 1, a, i =>
    if sees s i 93 then .ok a (i + 1)
    else match item s o i with
      | .ok b j => setLoop o f (Oct.join a b) j
      | .bad a e => .bad a e
      | .out => .out
def setOf (f i : Nat) : Rs Oct.S :=
  match item s i (if sees s (i + 1) 94 then i + 2 else i + 1) with
  | .ok a j =>
    match setLoop s i f a j with
    | .ok b k => .ok (if sees s (i + 1) 94 then Oct.inv b else Oct.meet b ordinary) k
    | .bad a e => .bad a e
    | .out => .out
  | .bad a e => .bad a e
  | .out => .out
mutual
def pat : Nat → Nat → Nat → Rs Tr
  | 0, _, _ => .out
  | n + 1, d, i => match alt n d i with
    | .ok t j => patLoop n d [t] j
    | .bad a e => .bad a e
    | .out => .out
def patLoop : Nat → Nat → List Tr → Nat → Rs Tr
  | 0, _, _, _ => .out
  | n + 1, d, acc, i =>
    if sees s i 124 then
      match alt n d (i + 1) with
      | .ok t j => patLoop n d (acc ++ [t]) j
      | .bad a e => .bad a e
      | .out => .out
    else .ok (together 4 acc) i
def alt : Nat → Nat → Nat → Rs Tr
  | 0, _, _ => .out
  | n + 1, d, i => altLoop n d [] i
def altLoop : Nat → Nat → List Tr → Nat → Rs Tr
  | 0, _, _, _ => .out
  | n + 1, d, acc, i =>
    if decide (i < s.size) && !(sees s i 124) && !(sees s i 41) then
      match piece n d i with
      | .ok t j => altLoop n d (acc ++ [t]) j
      | .bad a e => .bad a e
      | .out => .out
    else .ok (together 3 acc) i
def piece : Nat → Nat → Nat → Rs Tr
  | 0, _, _ => .out
  | n + 1, d, i =>
    if byt s i = 94 then .ok (.mk 6 Oct.none [] 0 0) (i + 1)
    else if byt s i = 36 then .ok (.mk 7 Oct.none [] 0 0) (i + 1)
    else match atom n d i with
      | .ok t j => repeated s t j
      | .bad a e => .bad a e
      | .out => .out
def atom : Nat → Nat → Nat → Rs Tr
  | 0, _, _ => .out
  | n + 1, d, i =>
    if byt s i ∈ [42, 43, 63, 123] then .bad i 44
    else if byt s i = 40 then group n d i
    else if byt s i = 91 then
      match setOf s n i with
      | .ok a j => .ok (setT a) j
      | .bad a e => .bad a e
      | .out => .out
    else if byt s i = 46 then .ok (setT ordinary) (i + 1)
    else if byt s i = 92 then
      if i + 1 = s.size || !(escapable (byt s (i + 1))) then .bad i 46 else .ok (setT (Oct.has [byt s (i + 1)])) (i + 2)
    else .ok (setT (Oct.has [byt s i])) (i + 1)
def group : Nat → Nat → Nat → Rs Tr
  | 0, _, _ => .out
  | n + 1, d, i =>
    if d = 64 then .bad i 47
    else match pat n (d + 1) (i + 1) with
      | .ok t j => if j = s.size then .bad i 42 else .ok t (j + 1)
      | .bad a e => .bad a e
      | .out => .out
end
end
end Go.Proofs.YtmjnobdlgbojoaaGreatDoor


namespace Go.Proofs.YtmjnobdlgbojoaaGreatDoor
open Go.RowKit
attribute [local go_sem ↓] Go.wp_at_zero Go.wp_at_succ
def Reads {α : Type} (w : World) (B : Nat) (s : ByteArray) (d : Nat) (r : Rs α) (V : World → α → Value → Prop) : Ending → World → Prop := fun e w' =>
  match r with
  | .ok x j => j ≤ s.size ∧ ∃ v, e = .returned v ∧ V w' x v ∧ RB w' B s j d ∧ w.grownBy w' (some B)
  | .bad a c => e = .panicked [{ v := flt a c, recovered := false }] ∧ w.grownBy w' (some B)
  | .out => False
theorem grown_refl (w : World) (r : Option Nat) : w.grownBy w r := ⟨rfl, rfl, rfl, Nat.le_refl _, fun _ _ _ => rfl⟩
theorem grown_below {w u w' : World} {r : Option Nat} (h : w.grownBy u r) (hb : Below u.heap.size u w') : w.grownBy w' r :=
  ⟨hb.os.trans h.os, hb.tape.trans h.tape, hb.output.trans h.output, Nat.le_trans h.size hb.size, fun k hk hne => (hb.block k (Nat.lt_of_lt_of_le hk h.size)).trans (h.block k hk hne)⟩
theorem grown_trans {w u w' : World} {r : Option Nat} (h : w.grownBy u r) (h2 : u.grownBy w' r) : w.grownBy w' r :=
  ⟨h2.os.trans h.os, h2.tape.trans h.tape, h2.output.trans h.output, Nat.le_trans h.size h2.size, fun k hk hne => (h2.block k (Nat.lt_of_lt_of_le hk h.size) hne).trans (h.block k hk hne)⟩
theorem grown_set (w : World) (B j : Nat) (v : Value) : w.grownBy (w.setCell ⟨B, j, none⟩ v) (some B) :=
  ⟨rfl, rfl, rfl, by simp [World.setCell], fun k _ hk => Below.heap_setCell w ⟨B, j, none⟩ v k (fun e => hk (by rw [e]))⟩
theorem RB.at {w : World} {B : Nat} {s : ByteArray} {i d : Nat} (h : RB w B s i d) (j : Nat) : RB (w.setCell ⟨B, 1, none⟩ (.int .i64 (j : Nat))) B s j d := by
  unfold RB at h ⊢
  simp only [World.setCell, Array.getElem?_modify, h]
  rfl
theorem RB.deep {w : World} {B : Nat} {s : ByteArray} {i d : Nat} (h : RB w B s i d) (j : Nat) : RB (w.setCell ⟨B, 2, none⟩ (.int .i64 (j : Nat))) B s i j := by
  unfold RB at h ⊢
  simp only [World.setCell, Array.getElem?_modify, h]
  rfl
def IntV (_ : World) (n : Nat) (v : Value) : Prop := v = .int .i64 (n : Nat)
theorem digits_bound (s : ByteArray) (f i n : Nat) : (digits s f i n).2 ≤ i + f ∧ i ≤ (digits s f i n).2 ∧ (i ≤ s.size → (digits s f i n).2 ≤ s.size) := by
  induction f generalizing i n with
  | zero => simp [digits]
  | succ f ih =>
    rw [digits]
    split
    · rename_i h
      have := ih (i + 1) (n * 10 + (byt s i - 48))
      have hlt : i < s.size := by simp [isDigit] at h; exact h.1.1
      refine ⟨by omega, by omega, fun _ => this.2.2 (by omega)⟩
    · refine ⟨by omega, by simp, fun h => h⟩
set_option maxRecDepth 4000 in
set_option maxHeartbeats 2000000 in
theorem count_any (B o i d : Nat) (s : ByteArray) (w : World) (h : RB w B s i d) (hi : i ≤ s.size) (hs : s.size ≤ 1024) : Calls Tryz.prog 93 #[.pointer (some ⟨B, 0, none⟩), .int .i64 (o : Nat)] w (Reads w B s d (count s o i) IntV) := by
  have HR : Hid (RB w B s i d) := h
  have HS : Hid (s.size ≤ 1024) := hs
  have HI : Hid (i ≤ s.size) := hi
  obtain ⟨c0, c1, c2⟩ := h.cells
  clear h hs
  go_enter Tryz.func93, Tryz.ntmps93
  go_wp2_with fail
  go_quiet (fail)
  have HR0 : Hid (RB (w.drewN nq) B s i d) := HR.out.later (below_drewN _ _ _)
  have HG0 : Hid (w.grownBy (w.drewN nq) (some B)) := grown_below (grown_refl _ _) (below_drewN _ _ _)
  obtain ⟨w0, hw0⟩ : ∃ w0, w0 = w.drewN nq := ⟨_, rfl⟩
  rw [← hw0] at HR0 HG0
  have HW0 : Hid (w0 = _) := hw0
  clear hw0 c0 c1 c2
  go_wp2_with fail
  rw [← HW0.out]
  clear HW0
  go_loopw [5] (fun n u => ∃ f k m : Nat, f ≤ 3 ∧ k + f = i + 3 ∧ n = .int .i64 (m : Nat) ∧ ((f = 3 → m = 0) ∧ (f = 2 → m ≤ 9) ∧ (f = 1 → m ≤ 99)) ∧ m ≤ 999 ∧ k ≤ s.size ∧ Hid (RB u B s k d) ∧ Hid (w.grownBy u (some B)) ∧ Hid (digits s f k m = digits s 3 i 0)) (fun _ u => 4000 - (intOf ((u.cell? ⟨B, 1, none⟩).getD undef)).toNat)
  case atStart => exact ⟨3, i, 0, Nat.le_refl _, rfl, rfl, ⟨by omega, by omega, by omega⟩, by omega, hi, HR0, HG0, by show _ = _; rfl⟩
  case round =>
    clear HR0 HG0
    obtain ⟨f, k, m, hf, hkf, rfl, hm0, hm, hk, hr, hg, hdg⟩ := hrel
    have hne : Nonempty (Later wr) := ⟨⟨wr, Below.refl _ _⟩⟩
    have HE : Hid (∀ u : Later wr, Calls Tryz.prog 63 #[.pointer (some ⟨B, 0, none⟩)] u.at_ fun e w' => e = .returned (.bool (decide (k = s.size))) ∧ Below u.at_.heap.size u.at_ w') := fun u => ended_any B k d s _ (hr.out.later u.below)
    have c0 : ∀ u : Later wr, u.at_.cell? ⟨B, 0, none⟩ = some (.string s) := fun u => (hr.out.later u.below).cells.1
    have c1 : ∀ u : Later wr, u.at_.cell? ⟨B, 1, none⟩ = some (.int .i64 (k : Nat)) := fun u => (hr.out.later u.below).cells.2.1
    have hi2 : i ≤ 1024 := Nat.le_trans hi HS.out
    have hk2 : k ≤ 1024 := Nat.le_trans hk HS.out
    have HM : Hid (4000 - (intOf ((wr.cell? ⟨B, 1, none⟩).getD undef)).toNat = 4000 - k) := by show _ = _; rw [hr.out.cells.2.1]; simp [intOf]
    by_cases hend : k = s.size
    · have HD2 : Hid ((m, k) = digits s 3 i 0) := by
        show _ = _
        rw [← hdg.out]
        cases f with
        | zero => rfl
        | succ f =>
          have : isDigit s k = false := by simp [isDigit, hend]
          rw [digits, this]; rfl
      have hend' : decide (k = s.size) = true := by simp [hend]
      rw [hend'] at HE
      clear hend' hend
      go_upto_region 2 with fail
      go_cut [46] from 11 to 67 (fun b wx => b = .bool false ∧ Hid (Below wr.heap.size wr wx))
      case first =>
        refine wp_region_later (by kernel_rfl) (by kernel_rfl) ?_
        repeat (first
          | go_big_quiet_step ((go_at_call 63; exact calls_later (HE.out _)))
          | quiet_step ((go_at_call 63; exact calls_later (HE.out _))))
        refine wpQuiet_nil ?_
        intro _ hw'
        obtain ⟨u, hw''⟩ := hw'
        subst hw''
        go_wp2_with fail
        go_meet
        case rel => exact ⟨rfl, u.below⟩
      case rest =>
      obtain ⟨rfl, kc⟩ := hcut
      obtain ⟨u1, hu1⟩ : ∃ u1, u1 = wc := ⟨_, rfl⟩
      rw [← hu1] at kc ⊢
      clear hu1
      have HR1 : Hid (RB u1 B s k d) := hr.out.later kc.out
      have HG1 : Hid (w.grownBy u1 (some B)) := grown_below hg.out kc.out
      clear kc HE c0 c1 hne
      obtain ⟨c0, c1, c2⟩ := HR1.out.cells
      have f1 := HR1.out.frozen 1
      by_cases hki : k = i
      · have HBAD : Hid (count s o i = .bad o 45) := by
          show _ = _
          unfold count
          rw [← HD2.out]
          simp [hki]
        subst hki
        go_wp2_with fail
        refine (giveUp_any o 45 _).mono ?_
        rintro e w2 ⟨rfl, k2⟩
        go_wp2
        refine ⟨rfl, ?_⟩
        unfold Reads
        rw [HBAD.out]
        exact ⟨rfl, grown_below HG1.out k2⟩
      · have HOK : Hid (count s o i = .ok m k) := by
          show _ = _
          unfold count
          rw [← HD2.out]
          simp [hki]
        have hki' : ¬ (k : Int) = (i : Int) := by omega
        go_wp2_with fail
        go_ret
        unfold Reads
        rw [HOK.out]
        exact ⟨hk, _, rfl, rfl, HR1.out, HG1.out⟩
    · have hlt : k < s.size := by omega
      have hlt' : (k : Int) < (s.size : Int) := by omega
      have hend' : decide (k = s.size) = false := by simp [hend]
      rw [hend'] at HE
      clear hend'
      by_cases hf0 : f = 0
      · have HD2 : Hid ((m, k) = digits s 3 i 0) := by
          show _ = _
          rw [← hdg.out, hf0]
          rfl
        have hge : decide ((k : Int) < (i : Int) + 3) = false := by simp; omega
        go_upto_region 2 with fail
        go_cut [46] from 11 to 67 (fun b wx => b = .bool false ∧ Hid (Below wr.heap.size wr wx))
        case first =>
          refine wp_region_later (by kernel_rfl) (by kernel_rfl) ?_
          repeat (first
            | go_big_quiet_step ((go_at_call 63; exact calls_later (HE.out _)))
            | quiet_step ((go_at_call 63; exact calls_later (HE.out _))))
          refine wpQuiet_nil ?_
          intro _ hw'
          obtain ⟨u, hw''⟩ := hw'
          subst hw''
          go_wp2_with fail
          go_meet
          case rel => exact ⟨rfl, u.below⟩
        case rest =>
        obtain ⟨rfl, kc⟩ := hcut
        obtain ⟨u1, hu1⟩ : ∃ u1, u1 = wc := ⟨_, rfl⟩
        rw [← hu1] at kc ⊢
        clear hu1
        have HR1 : Hid (RB u1 B s k d) := hr.out.later kc.out
        have HG1 : Hid (w.grownBy u1 (some B)) := grown_below hg.out kc.out
        clear kc HE c0 c1 hne
        obtain ⟨c0, c1, c2⟩ := HR1.out.cells
        have f1 := HR1.out.frozen 1
        by_cases hki : k = i
        · exact absurd hki (by omega)
        · have HOK : Hid (count s o i = .ok m k) := by
            show _ = _
            unfold count
            rw [← HD2.out]
            simp [hki]
          have hki' : ¬ (k : Int) = (i : Int) := by omega
          go_wp2_with fail
          go_ret
          unfold Reads
          rw [HOK.out]
          exact ⟨hk, _, rfl, rfl, HR1.out, HG1.out⟩
      · have hlt3 : (k : Int) < (i : Int) + 3 := by omega
        have hb := byt_eq hlt
        obtain ⟨f', rfl⟩ : ∃ f', f = f' + 1 := ⟨f - 1, by omega⟩
        have hd3 : decide ((k : Int) < (i : Int) + 3) = true := by simp; omega
        clear hlt3
        obtain ⟨b, hbb⟩ : ∃ b, b = s[k].toNat := ⟨_, rfl⟩
        have hb256 : b < 256 := by rw [hbb]; exact UInt8.toNat_lt _
        by_cases h48 : 48 ≤ s[k].toNat
        · by_cases h57 : s[k].toNat ≤ 57
          · have HDG : Hid (digits s f' (k + 1) (m * 10 + (s[k].toNat - 48)) = digits s 3 i 0) := by
              show _ = _
              rw [← hdg.out, digits]
              have : isDigit s k = true := by simp [isDigit, hb, hlt, h48, h57]
              rw [this, hb]; rfl
            clear hb
            have g1 : decide (48 ≤ s[k].toNat) = true := by simp [h48]
            have g2 : decide (s[k].toNat ≤ 57) = true := by simp [h57]
            have g3 : decide ((48 : Int) ≤ (s[k].toNat : Int)) = true := by simp; omega
            have g4 : decide ((s[k].toNat : Int) ≤ (57 : Int)) = true := by simp; omega
            go_upto_region 2 with fail
            go_cut [46] from 11 to 67 (fun b wx => b = .bool true ∧ Hid (Below wr.heap.size wr wx))
            case first =>
              refine wp_region_later (by kernel_rfl) (by kernel_rfl) ?_
              repeat (first
                | go_big_quiet_step ((go_at_call 63; exact calls_later (HE.out _)))
                | quiet_step ((go_at_call 63; exact calls_later (HE.out _))))
              refine wpQuiet_nil ?_
              intro _ hw'
              obtain ⟨u, hw''⟩ := hw'
              subst hw''
              go_wp2_with fail
              go_meet
              case rel => exact ⟨rfl, u.below⟩
            case rest =>
            obtain ⟨rfl, kc⟩ := hcut
            obtain ⟨u1, hu1⟩ : ∃ u1, u1 = wc := ⟨_, rfl⟩
            rw [← hu1] at kc ⊢
            clear hu1
            have HR1 : Hid (RB u1 B s k d) := hr.out.later kc.out
            have HG1 : Hid (w.grownBy u1 (some B)) := grown_below hg.out kc.out
            clear kc HE c0 c1 hne
            obtain ⟨c0, c1, c2⟩ := HR1.out.cells
            have f1 := HR1.out.frozen 1
            clear g1 g2 g3 g4
            have hm99 : m ≤ 99 := by obtain ⟨h1, h2, h3⟩ := hm0; by_cases e1 : f' = 0 <;> by_cases e2 : f' = 1 <;> by_cases e3 : f' = 2 <;> omega
            go_wp2_with fail
            go_quiet (fail)
            go_wp2_with fail
            have HR2 : Hid (RB ((u1.drewN nq).setCell ⟨B, 1, none⟩ (.int .i64 ((k : Int) + 1))) B s (k + 1) d) := (HR1.out.later (below_drewN _ _ _)).at (k + 1)
            refine ⟨⟨f', k + 1, m * 10 + (s[k].toNat - 48), by omega, by omega, by congr 1; omega, ?_, by omega, by omega, HR2, grown_trans (grown_below HG1.out (below_drewN _ _ _)) (grown_set _ _ _ _), HDG⟩, ?_⟩
            · obtain ⟨h1, h2, h3⟩ := hm0
              refine ⟨fun e => by omega, fun e => ?_, fun e => ?_⟩
              · have := h1 (by omega); omega
              · have := h2 (by omega); omega
            · rw [HM.out, HR2.out.cells.2.1]
              simp [intOf]
              omega
          · have g1 : decide (48 ≤ s[k].toNat) = true := by simp [h48]
            have g2 : decide (s[k].toNat ≤ 57) = false := by simp; omega
            have g3 : decide ((48 : Int) ≤ (s[k].toNat : Int)) = true := by simp; omega
            have g4 : decide ((s[k].toNat : Int) ≤ (57 : Int)) = false := by simp; omega
            have HD2 : Hid ((m, k) = digits s 3 i 0) := by
              show _ = _
              rw [← hdg.out, digits]
              have : isDigit s k = false := by simp [isDigit, hb]; omega
              rw [this]; rfl
            clear hb
            go_upto_region 2 with fail
            go_cut [46] from 11 to 67 (fun b wx => b = .bool false ∧ Hid (Below wr.heap.size wr wx))
            case first =>
              refine wp_region_later (by kernel_rfl) (by kernel_rfl) ?_
              repeat (first
                | go_big_quiet_step ((go_at_call 63; exact calls_later (HE.out _)))
                | quiet_step ((go_at_call 63; exact calls_later (HE.out _))))
              refine wpQuiet_nil ?_
              intro _ hw'
              obtain ⟨u, hw''⟩ := hw'
              subst hw''
              go_wp2_with fail
              go_meet
              case rel => exact ⟨rfl, u.below⟩
            case rest =>
            obtain ⟨rfl, kc⟩ := hcut
            obtain ⟨u1, hu1⟩ : ∃ u1, u1 = wc := ⟨_, rfl⟩
            rw [← hu1] at kc ⊢
            clear hu1
            have HR1 : Hid (RB u1 B s k d) := hr.out.later kc.out
            have HG1 : Hid (w.grownBy u1 (some B)) := grown_below hg.out kc.out
            clear kc HE c0 c1 hne
            obtain ⟨c0, c1, c2⟩ := HR1.out.cells
            have f1 := HR1.out.frozen 1
            clear g1 g2 g3 g4
            by_cases hki : k = i
            · have HBAD : Hid (count s o i = .bad o 45) := by
                show _ = _
                unfold count
                rw [← HD2.out]
                simp [hki]
              subst hki
              go_wp2_with fail
              refine (giveUp_any o 45 _).mono ?_
              rintro e w2 ⟨rfl, k2⟩
              go_wp2
              refine ⟨rfl, ?_⟩
              unfold Reads
              rw [HBAD.out]
              exact ⟨rfl, grown_below HG1.out k2⟩
            · have HOK : Hid (count s o i = .ok m k) := by
                show _ = _
                unfold count
                rw [← HD2.out]
                simp [hki]
              have hki' : ¬ (k : Int) = (i : Int) := by omega
              go_wp2_with fail
              go_ret
              unfold Reads
              rw [HOK.out]
              exact ⟨hk, _, rfl, rfl, HR1.out, HG1.out⟩
        · have g1 : decide (48 ≤ s[k].toNat) = false := by simp; omega
          have g3 : decide ((48 : Int) ≤ (s[k].toNat : Int)) = false := by simp; omega
          have HD2 : Hid ((m, k) = digits s 3 i 0) := by
            show _ = _
            rw [← hdg.out, digits]
            have : isDigit s k = false := by simp [isDigit, hb]; omega
            rw [this]; rfl
          clear hb
          go_upto_region 2 with fail
          go_cut [46] from 11 to 67 (fun b wx => b = .bool false ∧ Hid (Below wr.heap.size wr wx))
          case first =>
            refine wp_region_later (by kernel_rfl) (by kernel_rfl) ?_
            repeat (first
              | go_big_quiet_step ((go_at_call 63; exact calls_later (HE.out _)))
              | quiet_step ((go_at_call 63; exact calls_later (HE.out _))))
            refine wpQuiet_nil ?_
            intro _ hw'
            obtain ⟨u, hw''⟩ := hw'
            subst hw''
            go_wp2_with fail
            go_meet
            case rel => exact ⟨rfl, u.below⟩
          case rest =>
          obtain ⟨rfl, kc⟩ := hcut
          obtain ⟨u1, hu1⟩ : ∃ u1, u1 = wc := ⟨_, rfl⟩
          rw [← hu1] at kc ⊢
          clear hu1
          have HR1 : Hid (RB u1 B s k d) := hr.out.later kc.out
          have HG1 : Hid (w.grownBy u1 (some B)) := grown_below hg.out kc.out
          clear kc HE c0 c1 hne
          obtain ⟨c0, c1, c2⟩ := HR1.out.cells
          have f1 := HR1.out.frozen 1
          clear g1 g3
          by_cases hki : k = i
          · have HBAD : Hid (count s o i = .bad o 45) := by
              show _ = _
              unfold count
              rw [← HD2.out]
              simp [hki]
            subst hki
            go_wp2_with fail
            refine (giveUp_any o 45 _).mono ?_
            rintro e w2 ⟨rfl, k2⟩
            go_wp2
            refine ⟨rfl, ?_⟩
            unfold Reads
            rw [HBAD.out]
            exact ⟨rfl, grown_below HG1.out k2⟩
          · have HOK : Hid (count s o i = .ok m k) := by
              show _ = _
              unfold count
              rw [← HD2.out]
              simp [hki]
            have hki' : ¬ (k : Int) = (i : Int) := by omega
            go_wp2_with fail
            go_ret
            unfold Reads
            rw [HOK.out]
            exact ⟨hk, _, rfl, rfl, HR1.out, HG1.out⟩
end Go.Proofs.YtmjnobdlgbojoaaGreatDoor


namespace Go.Proofs.YtmjnobdlgbojoaaGreatDoor
open Go.RowKit
attribute [local go_sem ↓] Go.wp_at_zero Go.wp_at_succ
theorem counted_any (l m : Int) (w : World) : Calls Tryz.prog 80 #[.int .i64 l, .int .i64 m] w fun e w' => e = .returned (.bool (counted l m)) ∧ w' = w := by
  by_cases h1 : 0 ≤ l <;> by_cases h2 : l ≤ 255 <;> by_cases h3 : m = -1 <;> by_cases h4 : l ≤ m <;> by_cases h5 : m ≤ 255 <;>
    (go_enter Tryz.func80, Tryz.ntmps80
     go_wp2
     go_ret
     exact ⟨ret_bool (by rw [Bool.eq_iff_iff]; simp [counted]; omega), rfl⟩)
def IntsV (_ : World) (x : Int × Int) (v : Value) : Prop := v = .tuple #[.int .i64 x.1, .int .i64 x.2]
theorem count_ok_le {s : ByteArray} {o i n j : Nat} (h : count s o i = .ok n j) : n ≤ 999 ∧ i ≤ j := by
  unfold count at h
  split at h
  · cases h
  · rename_i hne
    cases h
    refine ⟨?_, (digits_bound s 3 i 0).2.1⟩
    have hd : ∀ i : Nat, isDigit s i = true → byt s i - 48 ≤ 9 := fun i h => by simp [isDigit] at h; omega
    have e3 : digits s 3 i 0 = if isDigit s i then digits s 2 (i + 1) (0 * 10 + (byt s i - 48)) else (0, i) := rfl
    rw [e3]
    split
    · rename_i h0
      have b0 := hd i h0
      have e2 : ∀ n, digits s 2 (i + 1) n = if isDigit s (i + 1) then digits s 1 (i + 1 + 1) (n * 10 + (byt s (i + 1) - 48)) else (n, i + 1) := fun n => rfl
      rw [e2]
      split
      · rename_i h1
        have b1 := hd (i + 1) h1
        have e1 : ∀ n, digits s 1 (i + 1 + 1) n = if isDigit s (i + 1 + 1) then (n * 10 + (byt s (i + 1 + 1) - 48), i + 1 + 1 + 1) else (n, i + 1 + 1) := fun n => rfl
        rw [e1]
        split
        · rename_i h2
          have b2 := hd (i + 1 + 1) h2
          simp
          omega
        · simp
          omega
      · simp
        omega
    · simp
set_option maxRecDepth 4000 in
set_option maxHeartbeats 2000000 in
theorem counts_any (B i d : Nat) (s : ByteArray) (w : World) (h : RB w B s i d) (hi : i < s.size) (hs : s.size ≤ 1024) : Calls Tryz.prog 87 #[.pointer (some ⟨B, 0, none⟩)] w (Reads w B s d (counts s i) IntsV) := by
  have HR : Hid (RB w B s i d) := h
  obtain ⟨c0, c1, c2⟩ := h.cells
  have f1 := h.frozen 1
  have hi1 : i ≤ 1024 := by omega
  clear h
  go_enter Tryz.func87, Tryz.ntmps87
  go_wp2_with fail
  have HR1 : Hid (RB (w.setCell ⟨B, 1, none⟩ (.int .i64 ((i : Int) + 1))) B s (i + 1) d) := HR.out.at (i + 1)
  have HG1 : Hid (w.grownBy (w.setCell ⟨B, 1, none⟩ (.int .i64 ((i : Int) + 1))) (some B)) := grown_set _ _ _ _
  obtain ⟨w1, hw1⟩ : ∃ w1, w1 = w.setCell ⟨B, 1, none⟩ (.int .i64 ((i : Int) + 1)) := ⟨_, rfl⟩
  rw [← hw1] at HR1 HG1 ⊢
  clear hw1 c0 c1 c2 f1 HR
  refine (count_any B i (i + 1) d s w1 HR1.out (by omega) hs).mono ?_
  intro e w2 h2
  cases hc : count s i (i + 1) with
  | out => rw [hc] at h2; exact h2.elim
  | bad a c =>
    rw [hc] at h2
    obtain ⟨rfl, hg2⟩ := h2
    have HC : Hid (counts s i = .bad a c) := by show _ = _; unfold counts; rw [hc]
    have HG2 : Hid (w.grownBy w2 (some B)) := grown_trans HG1.out hg2
    clear hc hg2
    go_wp2
    refine ⟨rfl, ?_⟩
    unfold Reads
    rw [HC.out]
    exact ⟨rfl, HG2.out⟩
  | ok l j =>
    rw [hc] at h2
    obtain ⟨hj, v, rfl, rfl, hr2, hg2⟩ := h2
    have hlj := count_ok_le hc
    have HC : Hid (count s i (i + 1) = .ok l j) := hc
    have HR2 : Hid (RB w2 B s j d) := hr2
    have HG2 : Hid (w.grownBy w2 (some B)) := grown_trans HG1.out hg2
    obtain ⟨hl9, hjl⟩ := hlj
    clear hc hr2 hg2 HR1 HG1
    go_wp2_with fail
    refine (sees_any B j d 44 s w2 HR2.out hj).mono ?_
    rintro e w3 ⟨rfl, k3⟩
    have HR3 : Hid (RB w3 B s j d) := HR2.out.later k3
    have HG3 : Hid (w.grownBy w3 (some B)) := grown_below HG2.out k3
    clear k3 HR2 HG2
    cases h44 : sees s j 44 with
    | false =>
      have HCS : Hid (counts s i = countsEnd s i (l : Nat) (l : Nat) j) := by show _ = _; unfold counts; rw [HC.out]; simp [h44]
      have hjj := hj
      have HRw3 := HR3
      have HGw3 := HG3
      clear h44 HR3 HG3
      go_wp2_with fail
      refine (sees_any B j d 125 s w3 HRw3.out hjj).mono ?_
      rintro e w6 ⟨rfl, k6⟩
      have HR6 : Hid (RB w6 B s j d) := HRw3.out.later k6
      have HG6 : Hid (w.grownBy w6 (some B)) := grown_below HGw3.out k6
      clear k6 HRw3 HGw3
      cases h1 : sees s j 125 with
      | false =>
        have HCE : Hid (counts s i = .bad i 45) := by show _ = _; rw [HCS.out]; simp [countsEnd, h1]
        clear h1
        go_wp2_with fail
        refine (giveUp_any i 45 _).mono ?_
        rintro e w7 ⟨rfl, k7⟩
        go_wp2
        refine ⟨rfl, ?_⟩
        unfold Reads
        rw [HCE.out]
        exact ⟨rfl, grown_below HG6.out k7⟩
      | true =>
        have H1 : Hid (sees s j 125 = true) := h1
        clear h1
        go_wp2_with fail
        refine (counted_any (l : Nat) (l : Nat) _).mono ?_
        rintro e w7 ⟨rfl, rfl⟩
        cases h2 : counted (l : Nat) (l : Nat) with
        | false =>
          have HCE : Hid (counts s i = .bad i 45) := by show _ = _; rw [HCS.out]; simp [countsEnd, H1.out, h2]
          clear h2
          go_wp2_with fail
          refine (giveUp_any i 45 _).mono ?_
          rintro e w8 ⟨rfl, k8⟩
          go_wp2
          refine ⟨rfl, ?_⟩
          unfold Reads
          rw [HCE.out]
          exact ⟨rfl, grown_below HG6.out k8⟩
        | true =>
          have HCE : Hid (counts s i = .ok ((l : Nat), (l : Nat)) j) := by show _ = _; rw [HCS.out]; simp [countsEnd, H1.out, h2]
          clear h2
          go_wp2
          go_ret2
          unfold Reads
          rw [HCE.out]
          exact ⟨hjj, _, rfl, rfl, HR6.out, HG6.out⟩
    | true =>
      have hjlt : j < s.size := by unfold sees at h44; simp at h44; exact h44.1
      have H44 : Hid (sees s j 44 = true) := h44
      obtain ⟨c0, c1, c2⟩ := HR3.out.cells
      have f1 := HR3.out.frozen 1
      have hj1 : j ≤ 1024 := by omega
      clear h44
      have HR4 : Hid (RB (w3.setCell ⟨B, 1, none⟩ (.int .i64 ((j : Int) + 1))) B s (j + 1) d) := HR3.out.at (j + 1)
      have HG4 : Hid (w.grownBy (w3.setCell ⟨B, 1, none⟩ (.int .i64 ((j : Int) + 1))) (some B)) := grown_trans HG3.out (grown_set _ _ _ _)
      go_wp2_with fail
      obtain ⟨w4, hw4⟩ : ∃ w4, w4 = w3.setCell ⟨B, 1, none⟩ (.int .i64 ((j : Int) + 1)) := ⟨_, rfl⟩
      rw [← hw4] at HR4 HG4 ⊢
      clear hw4 c0 c1 c2 f1 HR3 HG3
      refine (sees_any B (j + 1) d 125 s w4 HR4.out (by omega)).mono ?_
      rintro e w5 ⟨rfl, k5⟩
      have HRw5 : Hid (RB w5 B s (j + 1) d) := HR4.out.later k5
      have HGw5 : Hid (w.grownBy w5 (some B)) := grown_below HG4.out k5
      clear k5 HR4 HG4
      cases h125 : sees s (j + 1) 125 with
      | true =>
        have HCS : Hid (counts s i = countsEnd s i (l : Nat) (-1) (j + 1)) := by show _ = _; unfold counts; rw [HC.out]; simp [H44.out, h125]
        have hjj : j + 1 ≤ s.size := by omega
        clear h125
        go_wp2_with fail
        refine (sees_any B (j + 1) d 125 s w5 HRw5.out hjj).mono ?_
        rintro e w6 ⟨rfl, k6⟩
        have HR6 : Hid (RB w6 B s (j + 1) d) := HRw5.out.later k6
        have HG6 : Hid (w.grownBy w6 (some B)) := grown_below HGw5.out k6
        clear k6 HRw5 HGw5
        cases h1 : sees s (j + 1) 125 with
        | false =>
          have HCE : Hid (counts s i = .bad i 45) := by show _ = _; rw [HCS.out]; simp [countsEnd, h1]
          clear h1
          go_wp2_with fail
          refine (giveUp_any i 45 _).mono ?_
          rintro e w7 ⟨rfl, k7⟩
          go_wp2
          refine ⟨rfl, ?_⟩
          unfold Reads
          rw [HCE.out]
          exact ⟨rfl, grown_below HG6.out k7⟩
        | true =>
          have H1 : Hid (sees s (j + 1) 125 = true) := h1
          clear h1
          go_wp2_with fail
          refine (counted_any (l : Nat) (-1) _).mono ?_
          rintro e w7 ⟨rfl, rfl⟩
          cases h2 : counted (l : Nat) (-1) with
          | false =>
            have HCE : Hid (counts s i = .bad i 45) := by show _ = _; rw [HCS.out]; simp [countsEnd, H1.out, h2]
            clear h2
            go_wp2_with fail
            refine (giveUp_any i 45 _).mono ?_
            rintro e w8 ⟨rfl, k8⟩
            go_wp2
            refine ⟨rfl, ?_⟩
            unfold Reads
            rw [HCE.out]
            exact ⟨rfl, grown_below HG6.out k8⟩
          | true =>
            have HCE : Hid (counts s i = .ok ((l : Nat), (-1)) (j + 1)) := by show _ = _; rw [HCS.out]; simp [countsEnd, H1.out, h2]
            clear h2
            go_wp2
            go_ret2
            unfold Reads
            rw [HCE.out]
            exact ⟨hjj, _, rfl, rfl, HR6.out, HG6.out⟩
      | false =>
        have H125 : Hid (sees s (j + 1) 125 = false) := h125
        clear h125
        go_wp2_with fail
        refine (count_any B i (j + 1) d s w5 HRw5.out (by omega) hs).mono ?_
        intro e w9 h9
        cases hc : count s i (j + 1) with
        | out => rw [hc] at h9; exact h9.elim
        | bad a c =>
          rw [hc] at h9
          obtain ⟨rfl, hg9⟩ := h9
          have HCE : Hid (counts s i = .bad a c) := by show _ = _; unfold counts; rw [HC.out]; simp [H44.out, H125.out, hc]
          have HG9 : Hid (w.grownBy w9 (some B)) := grown_trans HGw5.out hg9
          clear hc hg9
          go_wp2
          refine ⟨rfl, ?_⟩
          unfold Reads
          rw [HCE.out]
          exact ⟨rfl, HG9.out⟩
        | ok m k =>
          rw [hc] at h9
          obtain ⟨hjj, v, rfl, rfl, hr9, hg9⟩ := h9
          have HCS : Hid (counts s i = countsEnd s i (l : Nat) (m : Nat) k) := by show _ = _; unfold counts; rw [HC.out]; simp [H44.out, H125.out, hc]
          have HRw9 : Hid (RB w9 B s k d) := hr9
          have HGw9 : Hid (w.grownBy w9 (some B)) := grown_trans HGw5.out hg9
          clear hc hr9 hg9 HRw5 HGw5
          go_wp2_with fail
          refine (sees_any B k d 125 s w9 HRw9.out hjj).mono ?_
          rintro e w6 ⟨rfl, k6⟩
          have HR6 : Hid (RB w6 B s k d) := HRw9.out.later k6
          have HG6 : Hid (w.grownBy w6 (some B)) := grown_below HGw9.out k6
          clear k6 HRw9 HGw9
          cases h1 : sees s k 125 with
          | false =>
            have HCE : Hid (counts s i = .bad i 45) := by show _ = _; rw [HCS.out]; simp [countsEnd, h1]
            clear h1
            go_wp2_with fail
            refine (giveUp_any i 45 _).mono ?_
            rintro e w7 ⟨rfl, k7⟩
            go_wp2
            refine ⟨rfl, ?_⟩
            unfold Reads
            rw [HCE.out]
            exact ⟨rfl, grown_below HG6.out k7⟩
          | true =>
            have H1 : Hid (sees s k 125 = true) := h1
            clear h1
            go_wp2_with fail
            refine (counted_any (l : Nat) (m : Nat) _).mono ?_
            rintro e w7 ⟨rfl, rfl⟩
            cases h2 : counted (l : Nat) (m : Nat) with
            | false =>
              have HCE : Hid (counts s i = .bad i 45) := by show _ = _; rw [HCS.out]; simp [countsEnd, H1.out, h2]
              clear h2
              go_wp2_with fail
              refine (giveUp_any i 45 _).mono ?_
              rintro e w8 ⟨rfl, k8⟩
              go_wp2
              refine ⟨rfl, ?_⟩
              unfold Reads
              rw [HCE.out]
              exact ⟨rfl, grown_below HG6.out k8⟩
            | true =>
              have HCE : Hid (counts s i = .ok ((l : Nat), (m : Nat)) k) := by show _ = _; rw [HCS.out]; simp [countsEnd, H1.out, h2]
              clear h2
              go_wp2
              go_ret2
              unfold Reads
              rw [HCE.out]
              exact ⟨hjj, _, rfl, rfl, HR6.out, HG6.out⟩
end Go.Proofs.YtmjnobdlgbojoaaGreatDoor
