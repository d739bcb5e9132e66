/- Plain: disks as values; what each call makes of one. -/

namespace Sf

structure Ino where
  nm : ByteArray
  gen : Nat
  bs : List UInt8
  ls : Nat
structure Dk where
  hi : Nat
  ino : Nat → Option Ino
  lab : ByteArray → Option (Nat × Nat)
def may (s : ByteArray) : Bool := decide (1 ≤ s.size) && decide (s.size ≤ 32) && !(s.data.toList.contains 0) && !(s.data.toList.contains 10)
def num (d : Dk) (s : ByteArray) : Nat := match d.lab s with
  | some q => q.2
  | none => 0
def ser (d : Dk) (s : ByteArray) : Nat := match d.lab s with
  | some q => q.1
  | none => 0
def err (d : Dk) (s : ByteArray) : Nat := if may s then (if num d s = 0 then 141 else 0) else 140
def putI (d : Dk) (n : Nat) (f : Option Ino) : Dk := ⟨d.hi, fun m => if m = n then f else d.ino m, d.lab⟩
def putL (d : Dk) (s : ByteArray) (q n : Nat) : Dk := ⟨d.hi, d.ino, fun t => if t = s then some (q, n) else d.lab t⟩
def up (d : Dk) : Dk := ⟨d.hi + 1, d.ino, d.lab⟩
def new : Dk := ⟨0, fun _ => none, fun _ => none⟩
def Ino.shorten (f : Ino) (n : Nat) : Ino := if n = f.bs.length then f else ⟨f.nm, f.gen + 1, f.bs.take n, min f.ls n⟩
def Ino.sync (f : Ino) : Ino := ⟨f.nm, f.gen, f.bs, f.bs.length⟩
def Ino.stay (f : Ino) (k : Int) : Nat := (min (max k 0) (f.bs.length - f.ls : Int)).toNat
def Ino.crash (f : Ino) (k : Int) : Ino := (f.shorten (f.ls + f.stay k)).sync
def Ino.lay (f : Ino) (b : List UInt8) : Ino := ⟨f.nm, f.gen, f.bs ++ b, f.ls⟩
def Ino.name (f : Ino) (s : ByteArray) : Ino := ⟨s, f.gen, f.bs, f.ls⟩
/-- inode n, which is f, gets a name -/
def arrive (d : Dk) (n : Nat) (f : Ino) (s : ByteArray) : Dk := putI (putL d s (ser d s + 1) n) n (some (f.name s))
def drop (d : Dk) (n : Nat) (f : Ino) : Dk := putI (putL d f.nm (ser d f.nm) 0) n none
def fresh : Ino := ⟨ByteArray.empty, 0, [], 0⟩
def create (d : Dk) (s : ByteArray) : Dk := arrive (putI (up d) (d.hi + 1) (some fresh)) (d.hi + 1) fresh s
def withI (d : Dk) (n : Nat) (g : Ino → Ino) : Dk := match d.ino n with
  | some f => putI d n (some (g f))
  | none => d
def gone (d : Dk) (s : ByteArray) : Dk := if num d s = 0 then d else match d.ino (num d s) with
  | some f => drop d (num d s) f
  | none => d
def rename (d : Dk) (old other : ByteArray) : Dk := match d.ino (num d old) with
  | some f => arrive (putL (gone d other) old (ser (gone d other) old) 0) (num d old) f other
  | none => d
def keysUp (d : Dk) : List Nat := (List.range (d.hi + 1)).filter fun n => (d.ino n).isSome
/-- one inode of a crash: how many had bytes that were not synced, and the disk -/
def crStep (keep : List Int) (s : Nat × Dk) (n : Nat) : Nat × Dk := match s.2.ino n with
  | none => s
  | some f => if f.ls = f.bs.length then s else (s.1 + 1, putI s.2 n (some (f.crash (keep.getD s.1 0))))
def crash (d : Dk) (keep : List Int) : Dk := ((keysUp d).foldl (crStep keep) (0, d)).2
/-- WHAT HOLDS OF A DISK behind at most K calls. -/
structure Wf (d : Dk) (K : Nat) : Prop where
  hi : d.hi ≤ K
  ino : ∀ n f, d.ino n = some f → 1 ≤ n ∧ n ≤ d.hi ∧ may f.nm = true ∧ num d f.nm = n ∧ f.ls ≤ f.bs.length ∧ f.bs.length ≤ 1048576 ∧ f.gen ≤ K
  lab : ∀ s q n, d.lab s = some (q, n) → may s = true ∧ q ≤ K ∧ (n ≠ 0 → ∃ f, d.ino n = some f ∧ f.nm = s)
theorem may_size {s : ByteArray} (h : may s = true) : 1 ≤ s.size ∧ s.size ≤ 32 := by
  unfold may at h
  simp only [Bool.and_eq_true, decide_eq_true_eq] at h
  exact h.1.1
end Sf
