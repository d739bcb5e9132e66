/- Plain: the disks of the law's fixed row of calls. -/
import Derived.Test.YtjlfhaehdllmcaaG33
import Derived.Test.YtjlfhaehdllmcaaG26
namespace Go.Proofs.Ytjlfhaehdllmcaa
open Go.RowKit Sf

def sa : ByteArray := ⟨#[97]⟩
def sb : ByteArray := ⟨#[98]⟩
theorem sab : sa ≠ sb := by decide
theorem may_a : may sa = true := by decide
theorem may_b : may sb = true := by decide
def mk (f : Ino) (la lb : Option (Nat × Nat)) : Dk := ⟨1, fun m => if m = 1 then some f else none, fun t => if t = sa then la else if t = sb then lb else none⟩
section
variable {f f' : Ino} {la lb : Option (Nat × Nat)} {q : Nat}
theorem mk_put : Sf.putI (mk f la lb) 1 (some f') = mk f' la lb := by
  unfold Sf.putI mk
  congr 1
  funext m
  by_cases h : m = 1 <;> simp [h]
theorem mk_ino : (mk f la lb).ino 1 = some f := by simp [mk]
theorem mk_num : num (mk f (some (q, 1)) lb) sa = 1 := by simp [num, mk]
theorem mk_err : err (mk f (some (q, 1)) lb) sa = 0 := by unfold err; rw [may_a, mk_num]; rfl
theorem mk_numb : num (mk f la (some (q, 1))) sb = 1 := by have : sb ≠ sa := fun e => sab e.symm; simp [num, mk, this]
theorem mk_errb : err (mk f la (some (q, 1))) sb = 0 := by unfold err; rw [may_b, mk_numb]; rfl
theorem mk_serb : ser (mk f la (some (q, 1))) sb = q := by have : sb ≠ sa := fun e => sab e.symm; simp [ser, mk, this]
theorem mk_ser : ser (mk f (some (q, 1)) lb) sa = q := by simp [ser, mk]
theorem mk_keys : keysUp (mk f la lb) = [1] := by
  unfold keysUp mk
  simp [List.range_succ]
theorem mk_crash (k : Int) (h : f.ls ≠ f.bs.length) : Sf.crash (mk f la lb) [k] = mk (f.crash k) la lb := by
  unfold Sf.crash
  rw [mk_keys]
  simp only [List.foldl_cons, List.foldl_nil]
  unfold crStep
  simp only [mk_ino]
  rw [if_neg h]
  exact mk_put
theorem mk_new : Sf.create Sf.new sa = mk ⟨sa, 0, [], 0⟩ (some (1, 1)) none := by
  unfold Sf.create Sf.arrive Sf.putI Sf.putL Sf.up Sf.new mk Sf.ser
  simp only
  congr 1
  · funext m
    by_cases h : m = 1 <;> simp [h, Sf.Ino.name, Sf.fresh]
  · funext t
    by_cases h : t = sa <;> simp [h]
theorem mk_rename : Sf.rename (mk f (some (1, 1)) none) sa sb = mk (f.name sb) (some (1, 0)) (some (1, 1)) := by
  have h1 : num (mk f (some (1, 1)) none) sb = 0 := by have : sb ≠ sa := fun e => sab e.symm; simp [num, mk, this]
  have h2 : Sf.gone (mk f (some (1, 1)) none) sb = mk f (some (1, 1)) none := by unfold Sf.gone; rw [if_pos h1]
  unfold Sf.rename
  rw [mk_num, mk_ino]
  simp only
  rw [h2, mk_ser]
  have hba : sb ≠ sa := fun e => sab e.symm
  unfold Sf.arrive Sf.putI Sf.putL mk Sf.ser
  simp only
  congr 1
  · funext m
    by_cases h : m = 1 <;> simp [h]
  · funext t
    by_cases h : t = sb
    · subst h; simp [hba]
    · by_cases h' : t = sa
      · subst h'; simp [sab]
      · simp [h, h']
theorem mk_names : nmL (mk f la lb) = [f.nm.data.toList] := by
  unfold nmL
  rw [mk_keys]
  have h : inoZ (mk f la lb) ((1 : Nat) : Int) = some f := by unfold inoZ; simp [mk]
  have h2 : nmZ (mk f la lb) ((1 : Nat) : Int) = f.nm.data.toList := by unfold nmZ; rw [h]
  simp only [List.map_cons, List.map_nil, h2, List.mergeSort_singleton]
end
end Go.Proofs.Ytjlfhaehdllmcaa
