/- octets.Class of any name. -/
import Derived.Test.YtjmbimgofceanaaG03
import Derived.Test.YtjmbimgofceanaaG04
import Derived.Test.YtjmbimgofceanaaG05
import Derived.Lib.IndexMore
namespace Go.Proofs.Ytjmbimgofceanaa
open Go.RowKit
attribute [local go_sem ↓] Go.wp_at_zero Go.wp_at_succ
theorem word_zero (i : Nat) : ((Oct.word Oct.none i : Nat) : Int) = 0 := by rw [show Oct.none = fun _ => false from rfl, Oct.word_none]; rfl
theorem St.put4_ret2 {w u : World} {R V : Nat} {s : Oct.S} (h : St w u R V s) (f : Func) (hf : f.results = #[.cell 2 27, .tmp 3]) {a : Act} {x : Value} (hd : a.defers = []) (ha : a.tmps[2]?.getD undef = .pointer (some ⟨R, 0, none⟩)) (hx : a.tmps[3]?.getD undef = x) (hR : w.heap.size ≤ R) :
    bodyPost Try.prog f (fun e w' => e = .returned (.tuple #[setV Oct.none, x]) ∧ Below w.heap.size w w') .ret a ((((u.setCell ⟨R, 0, none⟩ (.int .u64 0)).setCell ⟨R, 1, none⟩ (.int .u64 0)).setCell ⟨R, 2, none⟩ (.int .u64 0)).setCell ⟨R, 3, none⟩ (.int .u64 0)) := by
  have h2 := h.ret2 f hf hd ha hx hR Oct.none Oct.none (fun _ _ => rfl)
  unfold put4 at h2
  rw [word_zero, word_zero, word_zero, word_zero] at h2
  exact h2

set_option maxRecDepth 4000 in
set_option maxHeartbeats 1000000 in
theorem class_no (n : ByteArray) (w : World) (halpha : (n.toList == [97, 108, 112, 104, 97]) = false) (hdigit : (n.toList == [100, 105, 103, 105, 116]) = false) (halnum : (n.toList == [97, 108, 110, 117, 109]) = false) (hupper : (n.toList == [117, 112, 112, 101, 114]) = false) (hlower : (n.toList == [108, 111, 119, 101, 114]) = false) (hxdigit : (n.toList == [120, 100, 105, 103, 105, 116]) = false) (hblank : (n.toList == [98, 108, 97, 110, 107]) = false) (hspace : (n.toList == [115, 112, 97, 99, 101]) = false) (hcntrl : (n.toList == [99, 110, 116, 114, 108]) = false) (hgraph : (n.toList == [103, 114, 97, 112, 104]) = false) (hprint : (n.toList == [112, 114, 105, 110, 116]) = false) (hpunct : (n.toList == [112, 117, 110, 99, 116]) = false) :
    Calls Try.prog 103 #[.string n] w fun e w' => e = .returned (.tuple #[setV Oct.none, .int .i64 30]) ∧ Below w.heap.size w w' := by
  obtain ⟨u0, hu0⟩ : ∃ u0, u0 = (w.alloc (.cells #[.int .u64 0, .int .u64 0, .int .u64 0, .int .u64 0] 27)).alloc (.cells #[.int .u64 0, .int .u64 0, .int .u64 0, .int .u64 0] 27) := ⟨_, rfl⟩
  have HS : Hid (St w u0 w.heap.size (w.heap.size + 1) Oct.none) := by rw [hu0]; exact start2 w
  have HU : Hid (u0 = _) := hu0
  clear hu0
  go_enter Try.func103, Try.ntmps103
  go_upto_region 27 with fail
  rw [← HU.out]
  clear HU
  obtain ⟨⟨c0, c1, c2, c3⟩, ⟨f0, f1, f2, f3⟩, ⟨d0, d1, d2, d3⟩, ⟨g0, g1, g2, g3⟩⟩ := HS.out.facts
  go_wp2
  exact HS.out.put4_ret2 Try.f103 rfl rfl rfl rfl (Nat.le_refl _)
theorem name_of {n : ByteArray} {l : List UInt8} (h : (n.toList == l) = true) : n = ⟨l.toArray⟩ := by
  have e := eq_of_beq h
  rw [ByteArray.toList_eq] at e
  cases n
  simp at e
  subst e
  simp
/-- the class of a name, and the error where there is none -/
def classOf (n : ByteArray) : Oct.S × Nat :=
  if n.toList == [97, 108, 112, 104, 97] then (alpha, 0) else
  if n.toList == [100, 105, 103, 105, 116] then (digit, 0) else
  if n.toList == [97, 108, 110, 117, 109] then (alnum, 0) else
  if n.toList == [117, 112, 112, 101, 114] then (upper, 0) else
  if n.toList == [108, 111, 119, 101, 114] then (lower, 0) else
  if n.toList == [120, 100, 105, 103, 105, 116] then (xdigit, 0) else
  if n.toList == [98, 108, 97, 110, 107] then (blank, 0) else
  if n.toList == [115, 112, 97, 99, 101] then (space, 0) else
  if n.toList == [99, 110, 116, 114, 108] then (cntrl, 0) else
  if n.toList == [103, 114, 97, 112, 104] then (graph, 0) else
  if n.toList == [112, 114, 105, 110, 116] then (print, 0) else
  if n.toList == [112, 117, 110, 99, 116] then (punct, 0) else
  (Oct.none, 30)
theorem class_any (n : ByteArray) (w : World) : Calls Try.prog 103 #[.string n] w fun e w' => e = .returned (.tuple #[setV (classOf n).1, .int .i64 ((classOf n).2 : Nat)]) ∧ Below w.heap.size w w' := by
  unfold classOf
  cases halpha : (n.toList == [97, 108, 112, 104, 97]) with
  | true =>
    obtain rfl := name_of halpha
    exact class_alpha w
  | false =>
  simp only [Bool.false_eq_true, if_false]
  cases hdigit : (n.toList == [100, 105, 103, 105, 116]) with
  | true =>
    obtain rfl := name_of hdigit
    exact class_digit w
  | false =>
  simp only [Bool.false_eq_true, if_false]
  cases halnum : (n.toList == [97, 108, 110, 117, 109]) with
  | true =>
    obtain rfl := name_of halnum
    exact class_alnum w
  | false =>
  simp only [Bool.false_eq_true, if_false]
  cases hupper : (n.toList == [117, 112, 112, 101, 114]) with
  | true =>
    obtain rfl := name_of hupper
    exact class_upper w
  | false =>
  simp only [Bool.false_eq_true, if_false]
  cases hlower : (n.toList == [108, 111, 119, 101, 114]) with
  | true =>
    obtain rfl := name_of hlower
    exact class_lower w
  | false =>
  simp only [Bool.false_eq_true, if_false]
  cases hxdigit : (n.toList == [120, 100, 105, 103, 105, 116]) with
  | true =>
    obtain rfl := name_of hxdigit
    exact class_xdigit w
  | false =>
  simp only [Bool.false_eq_true, if_false]
  cases hblank : (n.toList == [98, 108, 97, 110, 107]) with
  | true =>
    obtain rfl := name_of hblank
    exact class_blank w
  | false =>
  simp only [Bool.false_eq_true, if_false]
  cases hspace : (n.toList == [115, 112, 97, 99, 101]) with
  | true =>
    obtain rfl := name_of hspace
    exact class_space w
  | false =>
  simp only [Bool.false_eq_true, if_false]
  cases hcntrl : (n.toList == [99, 110, 116, 114, 108]) with
  | true =>
    obtain rfl := name_of hcntrl
    exact class_cntrl w
  | false =>
  simp only [Bool.false_eq_true, if_false]
  cases hgraph : (n.toList == [103, 114, 97, 112, 104]) with
  | true =>
    obtain rfl := name_of hgraph
    exact class_graph w
  | false =>
  simp only [Bool.false_eq_true, if_false]
  cases hprint : (n.toList == [112, 114, 105, 110, 116]) with
  | true =>
    obtain rfl := name_of hprint
    exact class_print w
  | false =>
  simp only [Bool.false_eq_true, if_false]
  cases hpunct : (n.toList == [112, 117, 110, 99, 116]) with
  | true =>
    obtain rfl := name_of hpunct
    exact class_punct w
  | false =>
  simp only [Bool.false_eq_true, if_false]
  exact class_no n w halpha hdigit halnum hupper hlower hxdigit hblank hspace hcntrl hgraph hprint hpunct
end Go.Proofs.Ytjmbimgofceanaa

/- Patterns read, said as plain functions: what package ere's reader answers, byte by byte. -/
namespace Go.Proofs.Ytjmbimgofceanaa
open Go.RowKit

/-- a tree -/
inductive Tr where
  | mk (k : Nat) (s : Oct.S) (subs : List Tr) (mn mx : Int)
/-- an answer: read up to a place; a fault and its place; or the bound of the reading was too small -/
inductive Rs (α : Type) where
  | ok (x : α) (i : Nat)
  | bad (i e : Nat)
  | out
def empty : Tr := .mk 1 Oct.none [] 0 0
def setT (a : Oct.S) : Tr := .mk 2 a [] 0 0
def times (t : Tr) (l m : Int) : Tr := .mk 5 Oct.none [t] l m
def together (k : Nat) : List Tr → Tr
  | [] => empty
  | [t] => t
  | ts => .mk k Oct.none ts 0 0
/-- all bytes that a pattern may take -/
def ordinary : Oct.S := Oct.inv Oct.none

section
variable (s : ByteArray)
def isDigit (i : Nat) : Bool := decide (i < s.size) && decide (48 ≤ byt s i) && decide (byt s i ≤ 57)
/-- digits, as many as there are, up to a bound -/
def digits : Nat → Nat → Nat → Nat × Nat
  | 0, i, n => (n, i)
  | f + 1, i, n => if isDigit s i then digits f (i + 1) (n * 10 + (byt s i - 48)) else (n, i)
def count (o i : Nat) : Rs Nat := if (digits s 3 i 0).2 = i then .bad o 45 else .ok (digits s 3 i 0).1 (digits s 3 i 0).2
def counted (l m : Int) : Bool := decide (0 ≤ l) && decide (l ≤ 255) && (decide (m = -1) || (decide (l ≤ m) && decide (m ≤ 255)))
def countsEnd (o : Nat) (l m : Int) (j : Nat) : Rs (Int × Int) := if sees s j 125 && counted l m then .ok (l, m) j else .bad o 45
def counts (i : Nat) : Rs (Int × Int) :=
  match count s i (i + 1) with
  | .ok l j =>
    if sees s j 44 then
      if sees s (j + 1) 125 then countsEnd s i l (-1) (j + 1)
      else match count s i (j + 1) with
        | .ok m k => countsEnd s i l m k
        | .bad a e => .bad a e
        | .out => .out
    else countsEnd s i l l j
  | .bad a e => .bad a e
  | .out => .out
def repeated (t : Tr) (i : Nat) : Rs Tr :=
  if sees s i 42 then .ok (times t 0 (-1)) (i + 1)
  else if sees s i 43 then .ok (times t 1 (-1)) (i + 1)
  else if sees s i 63 then .ok (times t 0 1) (i + 1)
  else if sees s i 123 then
    match counts s i with
    | .ok (l, m) j => .ok (times t l m) (j + 1)
    | .bad a e => .bad a e
    | .out => .out
  else .ok t i
def escapable (b : Nat) : Bool := decide (b ∈ [46, 91, 93, 40, 41, 42, 43, 63, 123, 125, 124, 94, 36, 92, 47, 45])
def special (i : Nat) : Bool := decide (i + 1 < s.size) && decide (byt s i = 91) && decide (byt s (i + 1) ∈ [58, 46, 61])
/-- what stands from a place on -/
def rest (i : Nat) : ByteArray := s.extract i s.size
def className (i : Nat) : ByteArray := ⟨(Lib.cut (rest s (i + 2)).data.toList [58, 93]).1.toArray⟩
def classEnds (i : Nat) : Bool := (Lib.cut (rest s (i + 2)).data.toList [58, 93]).2.2
def class_ (o i : Nat) : Rs Oct.S :=
  if classEnds s i then
    if (classOf (className s i)).2 = 0 then .ok (classOf (className s i)).1 (i + 2 + (className s i).size + 2) else .bad i (classOf (className s i)).2
  else .bad o 43
def span_ (i : Nat) : Rs Oct.S := if decide (byt s (i + 2) < byt s i) || special s (i + 2) then .bad i 43 else .ok (Oct.span (byt s i) (byt s (i + 2))) (i + 3)
def item (o i : Nat) : Rs Oct.S :=
  if i = s.size then .bad o 43
  else if decide (i + 1 < s.size) && decide (byt s i = 91) && decide (byt s (i + 1) = 58) then class_ s o i
  else if special s i then .bad i 43
  else if decide (i + 2 < s.size) && decide (byt s (i + 1) = 45) && decide (byt s (i + 2) ≠ 93) then span_ s i
  else .ok (Oct.has [byt s i]) (i + 1)
def setLoop (o : Nat) : Nat → Oct.S → Nat → Rs Oct.S
  | 0, _, _ => .out
  | f + 1, a, i =>
    if sees s i 93 then .ok a (i + 1)
    else match item s o i with
      | .ok b j => setLoop o f (Oct.join a b) j
      | .bad a e => .bad a e
      | .out => .out
def setOf (f i : Nat) : Rs Oct.S :=
  match item s i (if sees s (i + 1) 94 then i + 2 else i + 1) with
  | .ok a j =>
    match setLoop s i f a j with
    | .ok b k => .ok (if sees s (i + 1) 94 then Oct.inv b else Oct.meet b ordinary) k
    | .bad a e => .bad a e
    | .out => .out
  | .bad a e => .bad a e
  | .out => .out
mutual
def pat : Nat → Nat → Nat → Rs Tr
  | 0, _, _ => .out
  | n + 1, d, i => match alt n d i with
    | .ok t j => patLoop n d [t] j
    | .bad a e => .bad a e
    | .out => .out
def patLoop : Nat → Nat → List Tr → Nat → Rs Tr
  | 0, _, _, _ => .out
  | n + 1, d, acc, i =>
    if sees s i 124 then
      match alt n d (i + 1) with
      | .ok t j => patLoop n d (acc ++ [t]) j
      | .bad a e => .bad a e
      | .out => .out
    else .ok (together 4 acc) i
def alt : Nat → Nat → Nat → Rs Tr
  | 0, _, _ => .out
  | n + 1, d, i => altLoop n d [] i
def altLoop : Nat → Nat → List Tr → Nat → Rs Tr
  | 0, _, _, _ => .out
  | n + 1, d, acc, i =>
    if decide (i < s.size) && !(sees s i 124) && !(sees s i 41) then
      match piece n d i with
      | .ok t j => altLoop n d (acc ++ [t]) j
      | .bad a e => .bad a e
      | .out => .out
    else .ok (together 3 acc) i
def piece : Nat → Nat → Nat → Rs Tr
  | 0, _, _ => .out
  | n + 1, d, i =>
    if byt s i = 94 then .ok (.mk 6 Oct.none [] 0 0) (i + 1)
    else if byt s i = 36 then .ok (.mk 7 Oct.none [] 0 0) (i + 1)
    else match atom n d i with
      | .ok t j => repeated s t j
      | .bad a e => .bad a e
      | .out => .out
def atom : Nat → Nat → Nat → Rs Tr
  | 0, _, _ => .out
  | n + 1, d, i =>
    if byt s i ∈ [42, 43, 63, 123] then .bad i 44
    else if byt s i = 40 then group n d i
    else if byt s i = 91 then
      match setOf s n i with
      | .ok a j => .ok (setT a) j
      | .bad a e => .bad a e
      | .out => .out
    else if byt s i = 46 then .ok (setT ordinary) (i + 1)
    else if byt s i = 92 then
      if i + 1 = s.size || !(escapable (byt s (i + 1))) then .bad i 46 else .ok (setT (Oct.has [byt s (i + 1)])) (i + 2)
    else .ok (setT (Oct.has [byt s i])) (i + 1)
def group : Nat → Nat → Nat → Rs Tr
  | 0, _, _ => .out
  | n + 1, d, i =>
    if d = 64 then .bad i 47
    else match pat n (d + 1) (i + 1) with
      | .ok t j => if j = s.size then .bad i 42 else .ok t (j + 1)
      | .bad a e => .bad a e
      | .out => .out
end
end
end Go.Proofs.Ytjmbimgofceanaa
