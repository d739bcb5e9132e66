/- The library functions that package ere calls (strings.IndexByte, Cut, HasPrefix and what they call), by the shelf, at this program. -/
import Derived.Shelf.Small.Strs
import Derived.Shelf.Strings.Search1
import Derived.Shelf.Strings.Search2
import Derived.Shelf.Strings.Cut
import Derived.Shelf.LaysM
import Derived.Shelf.Strings.Shaped
import Derived.Shelf.Strings.Prefix
import Derived.Test.YtjmbimgofceanaaProg
import Derived.Test.YtjmbimgofceanaaG01
import Derived.Deep.DeepMust
namespace Go.Proofs
open Go.Shelf
def Try.lays137_ren : Go.Shelf.Ren := ⟨fun | 137 => 26 | 217 => 42 | 266 => 64 | n => n, fun | 9 => 9 | 5 => 5 | 3 => 3 | n => n, fun | n => n⟩
theorem Try.lays137 : Go.Proofs.Lays.n137 Try.prog Try.lays137_ren := {
  mixed := by kernel_rfl
  f137 := Try.func26.trans (congrArg some (by kernel_rfl))
  f217 := Try.func42.trans (congrArg some (by kernel_rfl))
  f266 := Try.func64.trans (congrArg some (by kernel_rfl))
  t3 := Try.underlying3
  a3 := Try.isAgg3
  z3 := Try.sizeOf3
  v3 := Try.zeroValue3
  t5 := Try.underlying5
  a5 := Try.isAgg5
  z5 := Try.sizeOf5
  v5 := Try.zeroValue5
  t9 := Try.underlying9
  a9 := Try.isAgg9
  z9 := Try.sizeOf9
  v9 := Try.zeroValue9 }
open Go.RowKit in
theorem Try.strings_IndexByte (s : ByteArray) (c : Int) (w : World) :
    Calls Try.prog 26 #[.string s, .int .u8 c] w fun e w' => e = .returned (.int .i64 (Lib.indexByte s.data.toList c.toNat.toUInt8)) ∧ w' = w := Any.strings_IndexByte Try.lays137 s c w
def Try.lays217_ren : Go.Shelf.Ren := ⟨fun | 217 => 42 | 266 => 64 | n => n, fun | 9 => 9 | 5 => 5 | 3 => 3 | n => n, fun | n => n⟩
theorem Try.lays217 : Go.Proofs.Lays.n217 Try.prog Try.lays217_ren := {
  mixed := by kernel_rfl
  f217 := Try.func42.trans (congrArg some (by kernel_rfl))
  f266 := Try.func64.trans (congrArg some (by kernel_rfl))
  t3 := Try.underlying3
  a3 := Try.isAgg3
  z3 := Try.sizeOf3
  v3 := Try.zeroValue3
  t5 := Try.underlying5
  a5 := Try.isAgg5
  z5 := Try.sizeOf5
  v5 := Try.zeroValue5
  t9 := Try.underlying9
  a9 := Try.isAgg9
  z9 := Try.sizeOf9
  v9 := Try.zeroValue9 }
open Go.RowKit Go.Lib in
theorem Try.stringslite_IndexByte (s : ByteArray) (c : Int) (w : World) :
    Calls Try.prog 42 #[.string s, .int .u8 c] w fun e w' => e = .returned (.int .i64 (Lib.indexByte s.data.toList c.toNat.toUInt8)) ∧ w' = w := Any.stringslite_IndexByte Try.lays217 s c w
def Try.lays224_ren : Go.Shelf.Ren := ⟨fun | 224 => 109 | n => n, fun | 3 => 3 | n => n, fun | n => n⟩
theorem Try.lays224 : Go.Proofs.Lays.n224 Try.prog Try.lays224_ren := {
  mixed := by kernel_rfl
  f224 := Try.func109.trans (congrArg some (by kernel_rfl))
  t3 := Try.underlying3
  a3 := Try.isAgg3
  z3 := Try.sizeOf3
  v3 := Try.zeroValue3 }
open Go.RowKit Go.Lib in
theorem Try.bytealg_Cutover (n : Int) (h0 : 0 ≤ n) (h1 : n < 4611686018427387904) (w : World) :
    Calls Try.prog 109 #[.int .i64 n] w fun e w' => e = .returned (.int .i64 ((n + 16) / 8)) ∧ w' = w := Any.bytealg_Cutover Try.lays224 n h0 h1 w
def Try.lays314_ren : Go.Shelf.Ren := ⟨fun | 314 => 111 | n => n, fun | 9 => 9 | 51 => 44 | 3 => 3 | 4 => 4 | 5 => 5 | 46 => 24 | n => n, fun | n => n⟩
theorem Try.lays314 : Go.Proofs.Lays.n314 Try.prog Try.lays314_ren := {
  mixed := by kernel_rfl
  f314 := Try.func111.trans (congrArg some (by kernel_rfl))
  t3 := Try.underlying3
  a3 := Try.isAgg3
  z3 := Try.sizeOf3
  v3 := Try.zeroValue3
  t4 := Try.underlying4
  a4 := Try.isAgg4
  z4 := Try.sizeOf4
  v4 := Try.zeroValue4
  t5 := Try.underlying5
  a5 := Try.isAgg5
  z5 := Try.sizeOf5
  v5 := Try.zeroValue5
  t9 := Try.underlying9
  a9 := Try.isAgg9
  z9 := Try.sizeOf9
  v9 := Try.zeroValue9
  t46 := Try.underlying24
  a46 := Try.isAgg24
  z46 := Try.sizeOf24
  v46 := Try.zeroValue24
  t51 := Try.underlying44
  a51 := Try.isAgg44
  z51 := Try.sizeOf44
  v51 := Try.zeroValue44 }
open Go.RowKit Go.Lib in
theorem Try.bytealg_hashStr (sep : ByteArray) (hs : sep.size < 4294967281) (w : World) :
    Calls Try.prog 111 #[.string sep] w fun e w' => e = .returned (.tuple #[.int .u32 (RK.H sep.data.toList % 4294967296), .int .u32 (16777619 ^ sep.size % 4294967296)]) ∧ w' = w := Any.bytealg_hashStr Try.lays314 sep hs w
def Try.lays267_ren : Go.Shelf.Ren := ⟨fun | 267 => 110 | 314 => 111 | n => n, fun | 9 => 9 | 3 => 3 | 146 => 128 | 51 => 44 | 4 => 4 | 5 => 5 | 46 => 24 | n => n, fun | n => n⟩
theorem Try.lays267 : Go.Proofs.Lays.n267 Try.prog Try.lays267_ren := {
  mixed := by kernel_rfl
  f267 := Try.func110.trans (congrArg some (by kernel_rfl))
  f314 := Try.func111.trans (congrArg some (by kernel_rfl))
  t3 := Try.underlying3
  a3 := Try.isAgg3
  z3 := Try.sizeOf3
  v3 := Try.zeroValue3
  t4 := Try.underlying4
  a4 := Try.isAgg4
  z4 := Try.sizeOf4
  v4 := Try.zeroValue4
  t5 := Try.underlying5
  a5 := Try.isAgg5
  z5 := Try.sizeOf5
  v5 := Try.zeroValue5
  t9 := Try.underlying9
  a9 := Try.isAgg9
  z9 := Try.sizeOf9
  v9 := Try.zeroValue9
  t46 := Try.underlying24
  a46 := Try.isAgg24
  z46 := Try.sizeOf24
  v46 := Try.zeroValue24
  t51 := Try.underlying44
  a51 := Try.isAgg44
  z51 := Try.sizeOf44
  v51 := Try.zeroValue44
  t146 := Try.underlying128
  a146 := Try.isAgg128
  z146 := Try.sizeOf128
  v146 := Try.zeroValue128 }
open Go.RowKit Go.Lib in
theorem Try.bytealg_IndexRabinKarp (s sep : ByteArray) (h1 : 1 ≤ sep.size) (h2 : sep.size ≤ s.size) (hs : s.size < 4294967281) (w : World) :
    Calls Try.prog 110 #[.string s, .string sep] w fun e w' => e = .returned (.int .i64 (Lib.index s.data.toList sep.data.toList)) ∧ w' = w := Any.bytealg_IndexRabinKarp Try.lays267 s sep h1 h2 hs w
def Try.lays219_ren : Go.Shelf.Ren := ⟨fun | 219 => 107 | 217 => 42 | 225 => 108 | 224 => 109 | 267 => 110 | 266 => 64 | 314 => 111 | n => n, fun | 9 => 9 | 3 => 3 | 4 => 4 | 5 => 5 | 46 => 24 | 146 => 128 | 51 => 44 | n => n, fun | 1 => 0 | n => n⟩
theorem Try.lays219 : Go.Proofs.Lays.n219 Try.prog Try.lays219_ren := {
  mixed := by kernel_rfl
  f217 := Try.func42.trans (congrArg some (by kernel_rfl))
  f219 := Try.func107.trans (congrArg some (by kernel_rfl))
  f224 := Try.func109.trans (congrArg some (by kernel_rfl))
  f225 := Try.func108.trans (congrArg some (by kernel_rfl))
  f266 := Try.func64.trans (congrArg some (by kernel_rfl))
  f267 := Try.func110.trans (congrArg some (by kernel_rfl))
  f314 := Try.func111.trans (congrArg some (by kernel_rfl))
  t3 := Try.underlying3
  a3 := Try.isAgg3
  z3 := Try.sizeOf3
  v3 := Try.zeroValue3
  t4 := Try.underlying4
  a4 := Try.isAgg4
  z4 := Try.sizeOf4
  v4 := Try.zeroValue4
  t5 := Try.underlying5
  a5 := Try.isAgg5
  z5 := Try.sizeOf5
  v5 := Try.zeroValue5
  t9 := Try.underlying9
  a9 := Try.isAgg9
  z9 := Try.sizeOf9
  v9 := Try.zeroValue9
  t46 := Try.underlying24
  a46 := Try.isAgg24
  z46 := Try.sizeOf24
  v46 := Try.zeroValue24
  t51 := Try.underlying44
  a51 := Try.isAgg44
  z51 := Try.sizeOf44
  v51 := Try.zeroValue44
  t146 := Try.underlying128
  a146 := Try.isAgg128
  z146 := Try.sizeOf128
  v146 := Try.zeroValue128
  g1 := by kernel_rfl }
open Go.RowKit Go.Lib in
theorem Try.stringslite_Index_one (s : ByteArray) (c : UInt8) (w : World) :
    Calls Try.prog 107 #[.string s, .string ⟨#[c]⟩] w fun e w' => e = .returned (.int .i64 (Lib.indexByte s.data.toList c)) ∧ w' = w := Any.stringslite_Index_one Try.lays219 s c w
open Go.RowKit Go.Lib in
theorem Try.stringslite_Index (s sub : ByteArray) (m : Int) (w : World) (hs : s.size < 4294967281) (hm : w.cell? ⟨0, 0, none⟩ = some (.int .i64 m)) :
    Calls Try.prog 107 #[.string s, .string sub] w fun e w' => e = .returned (.int .i64 (Lib.index s.data.toList sub.data.toList)) ∧ w' = w := Any.stringslite_Index Try.lays219 s sub m w hs hm
def Try.lays220_ren : Go.Shelf.Ren := ⟨fun | 220 => 105 | 219 => 107 | 217 => 42 | 225 => 108 | 224 => 109 | 267 => 110 | 266 => 64 | 314 => 111 | n => n, fun | 9 => 9 | 4 => 4 | 3 => 3 | 5 => 5 | 46 => 24 | 146 => 128 | 51 => 44 | n => n, fun | 1 => 0 | n => n⟩
theorem Try.lays220 : Go.Proofs.Lays.n220 Try.prog Try.lays220_ren := {
  mixed := by kernel_rfl
  f217 := Try.func42.trans (congrArg some (by kernel_rfl))
  f219 := Try.func107.trans (congrArg some (by kernel_rfl))
  f220 := Try.func105.trans (congrArg some (by kernel_rfl))
  f224 := Try.func109.trans (congrArg some (by kernel_rfl))
  f225 := Try.func108.trans (congrArg some (by kernel_rfl))
  f266 := Try.func64.trans (congrArg some (by kernel_rfl))
  f267 := Try.func110.trans (congrArg some (by kernel_rfl))
  f314 := Try.func111.trans (congrArg some (by kernel_rfl))
  t3 := Try.underlying3
  a3 := Try.isAgg3
  z3 := Try.sizeOf3
  v3 := Try.zeroValue3
  t4 := Try.underlying4
  a4 := Try.isAgg4
  z4 := Try.sizeOf4
  v4 := Try.zeroValue4
  t5 := Try.underlying5
  a5 := Try.isAgg5
  z5 := Try.sizeOf5
  v5 := Try.zeroValue5
  t9 := Try.underlying9
  a9 := Try.isAgg9
  z9 := Try.sizeOf9
  v9 := Try.zeroValue9
  t46 := Try.underlying24
  a46 := Try.isAgg24
  z46 := Try.sizeOf24
  v46 := Try.zeroValue24
  t51 := Try.underlying44
  a51 := Try.isAgg44
  z51 := Try.sizeOf44
  v51 := Try.zeroValue44
  t146 := Try.underlying128
  a146 := Try.isAgg128
  z146 := Try.sizeOf128
  v146 := Try.zeroValue128
  g1 := by kernel_rfl }
open Go.RowKit Go.Lib in
theorem Try.stringslite_Cut (s sep : ByteArray) (m : Int) (w : World) (hs : s.size < 4294967281) (hm : w.cell? ⟨0, 0, none⟩ = some (.int .i64 m)) :
    Calls Try.prog 105 #[.string s, .string sep] w fun e w' => e = .returned (.tuple #[.string ⟨(Lib.cut s.data.toList sep.data.toList).1.toArray⟩, .string ⟨(Lib.cut s.data.toList sep.data.toList).2.1.toArray⟩, .bool (Lib.cut s.data.toList sep.data.toList).2.2]) ∧ ∃ n, w' = w.drewN n := Any.stringslite_Cut Try.lays220 s sep m w hs hm
def Try.lays145_ren : Go.Shelf.Ren := ⟨fun | 145 => 102 | 220 => 105 | 219 => 107 | 217 => 42 | 225 => 108 | 224 => 109 | 267 => 110 | 266 => 64 | 314 => 111 | n => n, fun | 9 => 9 | 4 => 4 | 59 => 122 | 3 => 3 | 5 => 5 | 46 => 24 | 146 => 128 | 51 => 44 | n => n, fun | 1 => 0 | n => n⟩
theorem Try.lays145 : Go.Proofs.Lays.n145 Try.prog Try.lays145_ren := {
  mixed := by kernel_rfl
  f145 := Try.func102.trans (congrArg some (by kernel_rfl))
  f217 := Try.func42.trans (congrArg some (by kernel_rfl))
  f219 := Try.func107.trans (congrArg some (by kernel_rfl))
  f220 := Try.func105.trans (congrArg some (by kernel_rfl))
  f224 := Try.func109.trans (congrArg some (by kernel_rfl))
  f225 := Try.func108.trans (congrArg some (by kernel_rfl))
  f266 := Try.func64.trans (congrArg some (by kernel_rfl))
  f267 := Try.func110.trans (congrArg some (by kernel_rfl))
  f314 := Try.func111.trans (congrArg some (by kernel_rfl))
  t3 := Try.underlying3
  a3 := Try.isAgg3
  z3 := Try.sizeOf3
  v3 := Try.zeroValue3
  t4 := Try.underlying4
  a4 := Try.isAgg4
  z4 := Try.sizeOf4
  v4 := Try.zeroValue4
  t5 := Try.underlying5
  a5 := Try.isAgg5
  z5 := Try.sizeOf5
  v5 := Try.zeroValue5
  t9 := Try.underlying9
  a9 := Try.isAgg9
  z9 := Try.sizeOf9
  v9 := Try.zeroValue9
  t46 := Try.underlying24
  a46 := Try.isAgg24
  z46 := Try.sizeOf24
  v46 := Try.zeroValue24
  t51 := Try.underlying44
  a51 := Try.isAgg44
  z51 := Try.sizeOf44
  v51 := Try.zeroValue44
  t59 := Try.underlying122
  a59 := Try.isAgg122
  z59 := Try.sizeOf122
  v59 := Try.zeroValue122
  t146 := Try.underlying128
  a146 := Try.isAgg128
  z146 := Try.sizeOf128
  v146 := Try.zeroValue128
  g1 := by kernel_rfl }
open Go.RowKit Go.Lib in
theorem Try.strings_Cut (s sep : ByteArray) (m : Int) (w : World) (hs : s.size < 4294967281) (hm : w.cell? ⟨0, 0, none⟩ = some (.int .i64 m)) :
    Calls Try.prog 102 #[.string s, .string sep] w fun e w' => e = .returned (.tuple #[.string ⟨(Lib.cut s.data.toList sep.data.toList).1.toArray⟩, .string ⟨(Lib.cut s.data.toList sep.data.toList).2.1.toArray⟩, .bool (Lib.cut s.data.toList sep.data.toList).2.2]) ∧ ∃ n, w' = w.drewN n := Any.strings_Cut Try.lays145 s sep m w hs hm
def Try.laysM219_ren : Go.Shelf.Ren := ⟨fun | 219 => 107 | 217 => 42 | 225 => 108 | 224 => 109 | 267 => 110 | 266 => 64 | 314 => 111 | n => n, fun | 9 => 9 | 3 => 3 | 4 => 4 | 5 => 5 | 46 => 24 | 146 => 128 | 51 => 44 | n => n, fun | 1 => 0 | n => n⟩
theorem Try.laysM219 : Go.Proofs.LaysM.n219 Try.prog Try.laysM219_ren := {
  mixed := by kernel_rfl
  f217 := Try.func42.trans (congrArg some (by kernel_rfl))
  f219 := Try.func107.trans (congrArg some (by kernel_rfl))
  f224 := Try.func109.trans (congrArg some (by kernel_rfl))
  f225 := Try.func108.trans (congrArg some (by kernel_rfl))
  f266 := Try.func64.trans (congrArg some (by kernel_rfl))
  f267 := Try.func110.trans (congrArg some (by kernel_rfl))
  f314 := Try.func111.trans (congrArg some (by kernel_rfl))
  t3 := Try.underlying3
  a3 := Try.isAgg3
  z3 := Try.sizeOf3
  v3 := Try.zeroValue3
  t4 := Try.underlying4
  a4 := Try.isAgg4
  z4 := Try.sizeOf4
  v4 := Try.zeroValue4
  t5 := Try.underlying5
  a5 := Try.isAgg5
  z5 := Try.sizeOf5
  v5 := Try.zeroValue5
  t9 := Try.underlying9
  a9 := Try.isAgg9
  z9 := Try.sizeOf9
  v9 := Try.zeroValue9
  t46 := Try.underlying24
  a46 := Try.isAgg24
  z46 := Try.sizeOf24
  v46 := Try.zeroValue24
  t51 := Try.underlying44
  a51 := Try.isAgg44
  z51 := Try.sizeOf44
  v51 := Try.zeroValue44
  t146 := Try.underlying128
  a146 := Try.isAgg128
  z146 := Try.sizeOf128
  v146 := Try.zeroValue128
  g1 := by kernel_rfl
  i3 := by kernel_rfl
  i4 := by kernel_rfl
  i5 := by kernel_rfl
  i9 := by kernel_rfl
  i46 := by kernel_rfl
  i51 := by kernel_rfl
  i146 := by kernel_rfl
  m1 := by kernel_rfl
  s1_3 := fun w h => Go.Proofs.cell_of_shapedOpen_int (zero := #[.int .i64 0]) (t := 3) h (of_decide_eq_true (by kernel_rfl)) (by kernel_rfl) rfl (by kernel_rfl) (by kernel_rfl) Try.underlying3 }
open Go.RowKit Go.Lib in
theorem Try.stringslite_Index_shaped (s sub : ByteArray) (w : World) (h : w.ShapedOpen Try.prog) (hs : s.size < 4294967281) :
    Calls Try.prog 107 #[.string s, .string sub] w fun e w' => e = .returned (.int .i64 (Lib.index s.data.toList sub.data.toList)) ∧ w' = w := Any.stringslite_Index_shaped Try.laysM219 s sub w h hs
def Try.laysM220_ren : Go.Shelf.Ren := ⟨fun | 220 => 105 | 219 => 107 | 217 => 42 | 225 => 108 | 224 => 109 | 267 => 110 | 266 => 64 | 314 => 111 | n => n, fun | 9 => 9 | 4 => 4 | 3 => 3 | 5 => 5 | 46 => 24 | 146 => 128 | 51 => 44 | n => n, fun | 1 => 0 | n => n⟩
theorem Try.laysM220 : Go.Proofs.LaysM.n220 Try.prog Try.laysM220_ren := {
  mixed := by kernel_rfl
  f217 := Try.func42.trans (congrArg some (by kernel_rfl))
  f219 := Try.func107.trans (congrArg some (by kernel_rfl))
  f220 := Try.func105.trans (congrArg some (by kernel_rfl))
  f224 := Try.func109.trans (congrArg some (by kernel_rfl))
  f225 := Try.func108.trans (congrArg some (by kernel_rfl))
  f266 := Try.func64.trans (congrArg some (by kernel_rfl))
  f267 := Try.func110.trans (congrArg some (by kernel_rfl))
  f314 := Try.func111.trans (congrArg some (by kernel_rfl))
  t3 := Try.underlying3
  a3 := Try.isAgg3
  z3 := Try.sizeOf3
  v3 := Try.zeroValue3
  t4 := Try.underlying4
  a4 := Try.isAgg4
  z4 := Try.sizeOf4
  v4 := Try.zeroValue4
  t5 := Try.underlying5
  a5 := Try.isAgg5
  z5 := Try.sizeOf5
  v5 := Try.zeroValue5
  t9 := Try.underlying9
  a9 := Try.isAgg9
  z9 := Try.sizeOf9
  v9 := Try.zeroValue9
  t46 := Try.underlying24
  a46 := Try.isAgg24
  z46 := Try.sizeOf24
  v46 := Try.zeroValue24
  t51 := Try.underlying44
  a51 := Try.isAgg44
  z51 := Try.sizeOf44
  v51 := Try.zeroValue44
  t146 := Try.underlying128
  a146 := Try.isAgg128
  z146 := Try.sizeOf128
  v146 := Try.zeroValue128
  g1 := by kernel_rfl
  i3 := by kernel_rfl
  i4 := by kernel_rfl
  i5 := by kernel_rfl
  i9 := by kernel_rfl
  i46 := by kernel_rfl
  i51 := by kernel_rfl
  i146 := by kernel_rfl
  m1 := by kernel_rfl
  s1_3 := fun w h => Go.Proofs.cell_of_shapedOpen_int (zero := #[.int .i64 0]) (t := 3) h (of_decide_eq_true (by kernel_rfl)) (by kernel_rfl) rfl (by kernel_rfl) (by kernel_rfl) Try.underlying3 }
open Go.RowKit Go.Lib in
theorem Try.stringslite_Cut_shaped (s sep : ByteArray) (w : World) (h : w.ShapedOpen Try.prog) (hs : s.size < 4294967281) :
    Calls Try.prog 105 #[.string s, .string sep] w fun e w' => e = .returned (.tuple #[.string ⟨(Lib.cut s.data.toList sep.data.toList).1.toArray⟩, .string ⟨(Lib.cut s.data.toList sep.data.toList).2.1.toArray⟩, .bool (Lib.cut s.data.toList sep.data.toList).2.2]) ∧ ∃ n, w' = w.drewN n := Any.stringslite_Cut_shaped Try.laysM220 s sep w h hs
def Try.laysM145_ren : Go.Shelf.Ren := ⟨fun | 145 => 102 | 220 => 105 | 219 => 107 | 217 => 42 | 225 => 108 | 224 => 109 | 267 => 110 | 266 => 64 | 314 => 111 | n => n, fun | 9 => 9 | 4 => 4 | 59 => 122 | 3 => 3 | 5 => 5 | 46 => 24 | 146 => 128 | 51 => 44 | n => n, fun | 1 => 0 | n => n⟩
theorem Try.laysM145 : Go.Proofs.LaysM.n145 Try.prog Try.laysM145_ren := {
  mixed := by kernel_rfl
  f145 := Try.func102.trans (congrArg some (by kernel_rfl))
  f217 := Try.func42.trans (congrArg some (by kernel_rfl))
  f219 := Try.func107.trans (congrArg some (by kernel_rfl))
  f220 := Try.func105.trans (congrArg some (by kernel_rfl))
  f224 := Try.func109.trans (congrArg some (by kernel_rfl))
  f225 := Try.func108.trans (congrArg some (by kernel_rfl))
  f266 := Try.func64.trans (congrArg some (by kernel_rfl))
  f267 := Try.func110.trans (congrArg some (by kernel_rfl))
  f314 := Try.func111.trans (congrArg some (by kernel_rfl))
  t3 := Try.underlying3
  a3 := Try.isAgg3
  z3 := Try.sizeOf3
  v3 := Try.zeroValue3
  t4 := Try.underlying4
  a4 := Try.isAgg4
  z4 := Try.sizeOf4
  v4 := Try.zeroValue4
  t5 := Try.underlying5
  a5 := Try.isAgg5
  z5 := Try.sizeOf5
  v5 := Try.zeroValue5
  t9 := Try.underlying9
  a9 := Try.isAgg9
  z9 := Try.sizeOf9
  v9 := Try.zeroValue9
  t46 := Try.underlying24
  a46 := Try.isAgg24
  z46 := Try.sizeOf24
  v46 := Try.zeroValue24
  t51 := Try.underlying44
  a51 := Try.isAgg44
  z51 := Try.sizeOf44
  v51 := Try.zeroValue44
  t59 := Try.underlying122
  a59 := Try.isAgg122
  z59 := Try.sizeOf122
  v59 := Try.zeroValue122
  t146 := Try.underlying128
  a146 := Try.isAgg128
  z146 := Try.sizeOf128
  v146 := Try.zeroValue128
  g1 := by kernel_rfl
  i3 := by kernel_rfl
  i4 := by kernel_rfl
  i5 := by kernel_rfl
  i9 := by kernel_rfl
  i46 := by kernel_rfl
  i51 := by kernel_rfl
  i59 := by kernel_rfl
  i146 := by kernel_rfl
  m1 := by kernel_rfl
  s1_3 := fun w h => Go.Proofs.cell_of_shapedOpen_int (zero := #[.int .i64 0]) (t := 3) h (of_decide_eq_true (by kernel_rfl)) (by kernel_rfl) rfl (by kernel_rfl) (by kernel_rfl) Try.underlying3 }
open Go.RowKit Go.Lib in
theorem Try.strings_Cut_shaped (s sep : ByteArray) (w : World) (h : w.ShapedOpen Try.prog) (hs : s.size < 4294967281) :
    Calls Try.prog 102 #[.string s, .string sep] w fun e w' => e = .returned (.tuple #[.string ⟨(Lib.cut s.data.toList sep.data.toList).1.toArray⟩, .string ⟨(Lib.cut s.data.toList sep.data.toList).2.1.toArray⟩, .bool (Lib.cut s.data.toList sep.data.toList).2.2]) ∧ ∃ n, w' = w.drewN n := Any.strings_Cut_shaped Try.laysM145 s sep w h hs
def Try.lays206_ren : Go.Shelf.Ren := ⟨fun | 206 => 101 | n => n, fun | 9 => 9 | 4 => 4 | 3 => 3 | n => n, fun | n => n⟩
theorem Try.lays206 : Go.Proofs.Lays.n206 Try.prog Try.lays206_ren := {
  mixed := by kernel_rfl
  f206 := Try.func101.trans (congrArg some (by kernel_rfl))
  t3 := Try.underlying3
  a3 := Try.isAgg3
  z3 := Try.sizeOf3
  v3 := Try.zeroValue3
  t4 := Try.underlying4
  a4 := Try.isAgg4
  z4 := Try.sizeOf4
  v4 := Try.zeroValue4
  t9 := Try.underlying9
  a9 := Try.isAgg9
  z9 := Try.sizeOf9
  v9 := Try.zeroValue9 }
open Go.RowKit Go.Lib in
theorem Try.stringslite_HasPrefix (s p : ByteArray) (w : World) :
    Calls Try.prog 101 #[.string s, .string p] w fun e w' => e = .returned (.bool (Lib.hasPrefix s.data.toList p.data.toList)) ∧ w' = w := Any.stringslite_HasPrefix Try.lays206 s p w
def Try.lays99_ren : Go.Shelf.Ren := ⟨fun | 99 => 96 | 206 => 101 | n => n, fun | 9 => 9 | 4 => 4 | 3 => 3 | n => n, fun | n => n⟩
theorem Try.lays99 : Go.Proofs.Lays.n99 Try.prog Try.lays99_ren := {
  mixed := by kernel_rfl
  f99 := Try.func96.trans (congrArg some (by kernel_rfl))
  f206 := Try.func101.trans (congrArg some (by kernel_rfl))
  t3 := Try.underlying3
  a3 := Try.isAgg3
  z3 := Try.sizeOf3
  v3 := Try.zeroValue3
  t4 := Try.underlying4
  a4 := Try.isAgg4
  z4 := Try.sizeOf4
  v4 := Try.zeroValue4
  t9 := Try.underlying9
  a9 := Try.isAgg9
  z9 := Try.sizeOf9
  v9 := Try.zeroValue9 }
open Go.RowKit Go.Lib in
theorem Try.strings_HasPrefix (s p : ByteArray) (w : World) :
    Calls Try.prog 96 #[.string s, .string p] w fun e w' => e = .returned (.bool (Lib.hasPrefix s.data.toList p.data.toList)) ∧ w' = w := Any.strings_HasPrefix Try.lays99 s p w
end Go.Proofs

/- The reader of package ere: its block; ended, sees, giveUp. -/
namespace Go.Proofs.Ytjmbimgofceanaa
open Go.RowKit

/-- THE READER's BLOCK: its text, the byte that is next, the groups that it stands in. -/
def RB (w : World) (B : Nat) (s : ByteArray) (i d : Nat) : Prop := w.heap[B]? = some (.cells #[.string s, .int .i64 (i : Nat), .int .i64 (d : Nat)] 85 (0, 0))
theorem RB.cells {w : World} {B : Nat} {s : ByteArray} {i d : Nat} (h : RB w B s i d) : w.cell? ⟨B, 0, none⟩ = some (.string s) ∧ w.cell? ⟨B, 1, none⟩ = some (.int .i64 (i : Nat)) ∧ w.cell? ⟨B, 2, none⟩ = some (.int .i64 (d : Nat)) := by
  unfold RB at h
  refine ⟨?_, ?_, ?_⟩ <;> simp [World.cell?, h]
theorem RB.frozen {w : World} {B : Nat} {s : ByteArray} {i d : Nat} (h : RB w B s i d) (j : Nat) : w.frozen? ⟨B, j, none⟩ = false := by
  unfold RB at h
  simp [World.frozen?, h]
theorem RB.lt {w : World} {B : Nat} {s : ByteArray} {i d : Nat} (h : RB w B s i d) : B < w.heap.size := (Array.getElem?_eq_some_iff.1 h).1
theorem RB.later {w w' : World} {B : Nat} {s : ByteArray} {i d : Nat} (h : RB w B s i d) (hb : Below w.heap.size w w') : RB w' B s i d := (hb.block B h.lt).trans h
theorem below_drewN (B : Nat) (w : World) (n : Nat) : Below B w (w.drewN n) := ⟨rfl, rfl, rfl, Nat.le_refl _, fun _ _ => rfl⟩

theorem ended_any (B i d : Nat) (s : ByteArray) (w : World) (h : RB w B s i d) : Calls Try.prog 66 #[.pointer (some ⟨B, 0, none⟩)] w fun e w' => e = .returned (.bool (decide (i = s.size))) ∧ Below w.heap.size w w' := by
  obtain ⟨c0, c1, c2⟩ := h.cells
  clear h
  go_enter Try.func66, Try.ntmps66
  go_wp2
  go_quiet (fail)
  go_wp2
  go_ret
  exact ⟨ret_bool (by rw [Bool.eq_iff_iff]; simp; omega), below_drewN _ _ _⟩
/-- the byte at a place -/
def byt (s : ByteArray) (i : Nat) : Nat := if h : i < s.size then s[i].toNat else 0
theorem byt_eq {s : ByteArray} {i : Nat} (h : i < s.size) : byt s i = s[i].toNat := dif_pos h
theorem byt_lt (s : ByteArray) (i : Nat) : byt s i < 256 := by
  unfold byt
  split
  · exact UInt8.toNat_lt _
  · decide
theorem sees_no (B i d : Nat) (b : Int) (s : ByteArray) (w : World) (h : RB w B s i d) (hi : i = s.size) : Calls Try.prog 76 #[.pointer (some ⟨B, 0, none⟩), .int .u8 b] w fun e w' => e = .returned (.bool false) ∧ Below w.heap.size w w' := by
  have HR : Hid (RB w B s i d) := h
  have HI : Hid (decide (i = s.size) = true) := by show _ = _; simp [hi]
  clear h hi
  go_enter Try.func76, Try.ntmps76
  have hne : Nonempty (Later w) := ⟨⟨w, Below.refl _ _⟩⟩
  have HE : Hid (∀ u : Later w, Calls Try.prog 66 #[.pointer (some ⟨B, 0, none⟩)] u.at_ fun e w' => e = .returned (.bool true) ∧ Below u.at_.heap.size u.at_ w') := fun u => (ended_any B i d s _ (HR.out.later u.below)).mono (fun _ _ h => ⟨by rw [h.1, HI.out], h.2⟩)
  go_upto_region 1 with fail
  refine wp_region_later (by kernel_rfl) (by kernel_rfl) ?_
  repeat (first
    | go_big_quiet_step ((go_at_call 66; exact calls_later (HE.out _)))
    | quiet_step ((go_at_call 66; exact calls_later (HE.out _))))
  refine wpQuiet_nil ?_
  intro _ hw'
  obtain ⟨u, hw''⟩ := hw'
  subst hw''
  go_wp2
  go_ret
  exact ⟨rfl, u.below⟩
theorem sees_at (B i d : Nat) (b : Nat) (s : ByteArray) (w : World) (h : RB w B s i d) (hi : i < s.size) : Calls Try.prog 76 #[.pointer (some ⟨B, 0, none⟩), .int .u8 (b : Nat)] w fun e w' => e = .returned (.bool (decide (byt s i = b))) ∧ Below w.heap.size w w' := by
  have HR : Hid (RB w B s i d) := h
  have HI : Hid (decide (i = s.size) = false) := by show _ = _; simp; omega
  have hi' : (i : Int) < (s.size : Int) := by omega
  clear h
  go_enter Try.func76, Try.ntmps76
  have hne : Nonempty (Later w) := ⟨⟨w, Below.refl _ _⟩⟩
  have HE : Hid (∀ u : Later w, Calls Try.prog 66 #[.pointer (some ⟨B, 0, none⟩)] u.at_ fun e w' => e = .returned (.bool false) ∧ Below u.at_.heap.size u.at_ w') := fun u => (ended_any B i d s _ (HR.out.later u.below)).mono (fun _ _ h => ⟨by rw [h.1, HI.out], h.2⟩)
  have c0 : ∀ u : Later w, u.at_.cell? ⟨B, 0, none⟩ = some (.string s) := fun u => (HR.out.later u.below).cells.1
  have c1 : ∀ u : Later w, u.at_.cell? ⟨B, 1, none⟩ = some (.int .i64 (i : Nat)) := fun u => (HR.out.later u.below).cells.2.1
  go_upto_region 1 with fail
  refine wp_region_later (by kernel_rfl) (by kernel_rfl) ?_
  repeat (first
    | go_big_quiet_step ((go_at_call 66; exact calls_later (HE.out _)))
    | quiet_step ((go_at_call 66; exact calls_later (HE.out _))))
  refine wpQuiet_nil ?_
  intro _ hw'
  obtain ⟨u, hw''⟩ := hw'
  subst hw''
  go_wp2
  go_ret
  refine ⟨?_, u.below⟩
  exact ret_bool (by rw [Bool.eq_iff_iff, byt_eq hi]; simp; omega)
/-- what sees tells -/
def sees (s : ByteArray) (i b : Nat) : Bool := decide (i < s.size) && decide (byt s i = b)
theorem sees_any (B i d : Nat) (b : Nat) (s : ByteArray) (w : World) (h : RB w B s i d) (hi : i ≤ s.size) : Calls Try.prog 76 #[.pointer (some ⟨B, 0, none⟩), .int .u8 (b : Nat)] w fun e w' => e = .returned (.bool (sees s i b)) ∧ Below w.heap.size w w' := by
  by_cases e : i = s.size
  · refine (sees_no B i d b s w h e).mono ?_
    rintro _ w' ⟨rfl, hb⟩
    have : ¬ i < s.size := by omega
    exact ⟨by simp [sees, this], hb⟩
  · have hlt : i < s.size := by omega
    refine (sees_at B i d b s w h hlt).mono ?_
    rintro _ w' ⟨rfl, hb⟩
    exact ⟨by simp [sees, hlt], hb⟩
/-- what the reader gives up with -/
def flt (i e : Nat) : Value := .iface 82 (.agg #[.int .i64 (i : Nat), .int .i64 (e : Nat)])
theorem giveUp_any (i e : Nat) (w : World) : Calls Try.prog 67 #[.int .i64 (i : Nat), .int .i64 (e : Nat)] w fun x w' => x = .panicked [{ v := flt i e, recovered := false }] ∧ Below w.heap.size w w' := by
  go_enter Try.func67, Try.ntmps67
  go_wp2
  exact ⟨rfl, rfl, Below.refl _ _⟩
end Go.Proofs.Ytjmbimgofceanaa

/- Contracts of octets.Class at some of its names: by walking its body. -/
namespace Go.Proofs.Ytjmbimgofceanaa
open Go.RowKit
attribute [local go_sem ↓] Go.wp_at_zero Go.wp_at_succ
set_option maxRecDepth 4000 in
set_option maxHeartbeats 2000000 in
theorem class_upper (w : World) : Calls Try.prog 103 #[.string ⟨#[117, 112, 112, 101, 114]⟩] w fun e w' => e = .returned (.tuple #[setV upper, .int .i64 0]) ∧ Below w.heap.size w w' := by
  obtain ⟨u0, hu0⟩ : ∃ u0, u0 = (w.alloc (.cells #[.int .u64 0, .int .u64 0, .int .u64 0, .int .u64 0] 27)).alloc (.cells #[.int .u64 0, .int .u64 0, .int .u64 0, .int .u64 0] 27) := ⟨_, rfl⟩
  have HS : Hid (St w u0 w.heap.size (w.heap.size + 1) (Oct.none)) := by rw [hu0]; exact start2 w
  have HU : Hid (u0 = _) := hu0
  clear hu0
  go_enter Try.func103, Try.ntmps103
  go_upto_region 20 with fail
  rw [← HU.out]
  clear HU
  obtain ⟨⟨c0, c1, c2, c3⟩, ⟨f0, f1, f2, f3⟩, ⟨d0, d1, d2, d3⟩, ⟨g0, g1, g2, g3⟩⟩ := HS.out.facts
  go_wp2_with fail
  refine (span_gen 65 90 _ (by decide) (by decide)).mono ?_
  rintro e v10 ⟨rfl, kk⟩
  have H10 : Hid (St w v10 w.heap.size (w.heap.size + 1) (Oct.none)) := (HS.out).later kk
  clear kk c0 c1 c2 c3 f0 f1 f2 f3 d0 d1 d2 d3 g0 g1 g2 g3
  obtain ⟨⟨c0, c1, c2, c3⟩, ⟨f0, f1, f2, f3⟩, ⟨d0, d1, d2, d3⟩, ⟨g0, g1, g2, g3⟩⟩ := H10.out.facts
  go_upto_region 28 with fail
  obtain ⟨u1, hu1⟩ : ∃ u1, u1 = put4 v10 (w.heap.size + 1) (Oct.span 65 90) := ⟨_, rfl⟩
  have HT : Hid (St w u1 w.heap.size (w.heap.size + 1) (Oct.span 65 90)) := by rw [hu1]; exact H10.out.put (by omega) (by omega) _
  have HE : Hid (u1 = put4 v10 (w.heap.size + 1) (Oct.span 65 90)) := hu1
  unfold put4 at HE
  clear hu1 c0 c1 c2 c3 f0 f1 f2 f3 d0 d1 d2 d3 g0 g1 g2 g3 HS
  rw [← HE.out]
  clear HE
  have HS : Hid (St w u1 w.heap.size (w.heap.size + 1) (Oct.span 65 90)) := HT
  clear HT
  obtain ⟨⟨c0, c1, c2, c3⟩, ⟨f0, f1, f2, f3⟩, ⟨d0, d1, d2, d3⟩, ⟨g0, g1, g2, g3⟩⟩ := HS.out.facts
  go_wp2
  exact HS.out.ret2 Try.f103 rfl rfl rfl rfl (Nat.le_refl _) _ upper (fun b hb => by
    rw [Bool.eq_iff_iff]
    try simp [Oct.span, upper]
    try omega)
set_option maxRecDepth 4000 in
set_option maxHeartbeats 2000000 in
theorem class_lower (w : World) : Calls Try.prog 103 #[.string ⟨#[108, 111, 119, 101, 114]⟩] w fun e w' => e = .returned (.tuple #[setV lower, .int .i64 0]) ∧ Below w.heap.size w w' := by
  obtain ⟨u0, hu0⟩ : ∃ u0, u0 = (w.alloc (.cells #[.int .u64 0, .int .u64 0, .int .u64 0, .int .u64 0] 27)).alloc (.cells #[.int .u64 0, .int .u64 0, .int .u64 0, .int .u64 0] 27) := ⟨_, rfl⟩
  have HS : Hid (St w u0 w.heap.size (w.heap.size + 1) (Oct.none)) := by rw [hu0]; exact start2 w
  have HU : Hid (u0 = _) := hu0
  clear hu0
  go_enter Try.func103, Try.ntmps103
  go_upto_region 19 with fail
  rw [← HU.out]
  clear HU
  refine wp_cut4 44 45 46 47 (fun wx => Hid (St w wx w.heap.size (w.heap.size + 1) (Oct.join (Oct.none) (Oct.span 97 122)))) ?first1 ?rest1
  case first1 =>
    obtain ⟨⟨c0, c1, c2, c3⟩, ⟨f0, f1, f2, f3⟩, ⟨d0, d1, d2, d3⟩, ⟨g0, g1, g2, g3⟩⟩ := HS.out.facts
    have a0 : ∀ o : Obj, (u0.alloc o).cell? ⟨w.heap.size + 1, 0, none⟩ = some (.int .u64 (Oct.word (Oct.none) 0 : Nat)) := fun o => (HS.out.later ((Below.refl _ _).alloc (Nat.le_refl _) _)).facts.1.1
    have a1 : ∀ o : Obj, (u0.alloc o).cell? ⟨w.heap.size + 1, 1, none⟩ = some (.int .u64 (Oct.word (Oct.none) 1 : Nat)) := fun o => (HS.out.later ((Below.refl _ _).alloc (Nat.le_refl _) _)).facts.1.2.1
    have a2 : ∀ o : Obj, (u0.alloc o).cell? ⟨w.heap.size + 1, 2, none⟩ = some (.int .u64 (Oct.word (Oct.none) 2 : Nat)) := fun o => (HS.out.later ((Below.refl _ _).alloc (Nat.le_refl _) _)).facts.1.2.2.1
    have a3 : ∀ o : Obj, (u0.alloc o).cell? ⟨w.heap.size + 1, 3, none⟩ = some (.int .u64 (Oct.word (Oct.none) 3 : Nat)) := fun o => (HS.out.later ((Below.refl _ _).alloc (Nat.le_refl _) _)).facts.1.2.2.2
    go_region_with (first
      | (go_at_call 104; refine (span_gen 97 122 _ (by decide) (by decide)).mono ?_; rintro e wn ⟨rfl, kn⟩; have Hn : Hid (St w wn w.heap.size (w.heap.size + 1) (Oct.none)) := (by first | exact (HS.out.later (Below.refl _ _).drew).later kn | exact (HS.out.later (((Below.refl _ _).alloc (Nat.le_refl _) _).drew)).later kn); clear c0 c1 c2 c3 f0 f1 f2 f3 d0 d1 d2 d3 g0 g1 g2 g3; obtain ⟨⟨c0, c1, c2, c3⟩, ⟨f0, f1, f2, f3⟩, ⟨d0, d1, d2, d3⟩, ⟨g0, g1, g2, g3⟩⟩ := Hn.out.facts; clear kn)
      | (go_at_call 92; refine (join2_gen (sl2_new _ _ _ _ rfl)).mono ?_; rintro e wm ⟨rfl, km⟩; have Hm : Hid (St w wm w.heap.size (w.heap.size + 1) (Oct.none)) := (Hn.out.later ((Below.refl _ _).alloc (Nat.le_refl _) _)).later km; clear c0 c1 c2 c3 f0 f1 f2 f3 d0 d1 d2 d3 g0 g1 g2 g3; obtain ⟨⟨c0, c1, c2, c3⟩, ⟨f0, f1, f2, f3⟩, ⟨d0, d1, d2, d3⟩, ⟨g0, g1, g2, g3⟩⟩ := Hm.out.facts; clear km))
    all_goals
      exact ⟨rfl, ⟨_, _, _, _, rfl⟩, Hm.out.put (by omega) (by omega) (Oct.join (Oct.none) (Oct.span 97 122))⟩
  case rest1 =>
  intro x10 x11 x12 x13 u1 hcut a' ha'
  simp [Act.put] at ha'
  subst ha'
  clear HS
  have HS : Hid (St w u1 w.heap.size (w.heap.size + 1) (Oct.join (Oct.none) (Oct.span 97 122))) := hcut
  clear hcut
  obtain ⟨⟨c0, c1, c2, c3⟩, ⟨f0, f1, f2, f3⟩, ⟨d0, d1, d2, d3⟩, ⟨g0, g1, g2, g3⟩⟩ := HS.out.facts
  go_wp2
  exact HS.out.ret2 Try.f103 rfl rfl rfl rfl (Nat.le_refl _) _ lower (fun b hb => by
    rw [Bool.eq_iff_iff]
    try simp [Oct.join, Oct.none, Oct.span, lower]
    try omega)
set_option maxRecDepth 4000 in
set_option maxHeartbeats 2000000 in
theorem class_alpha (w : World) : Calls Try.prog 103 #[.string ⟨#[97, 108, 112, 104, 97]⟩] w fun e w' => e = .returned (.tuple #[setV alpha, .int .i64 0]) ∧ Below w.heap.size w w' := by
  obtain ⟨u0, hu0⟩ : ∃ u0, u0 = (w.alloc (.cells #[.int .u64 0, .int .u64 0, .int .u64 0, .int .u64 0] 27)).alloc (.cells #[.int .u64 0, .int .u64 0, .int .u64 0, .int .u64 0] 27) := ⟨_, rfl⟩
  have HS : Hid (St w u0 w.heap.size (w.heap.size + 1) (Oct.none)) := by rw [hu0]; exact start2 w
  have HU : Hid (u0 = _) := hu0
  clear hu0
  go_enter Try.func103, Try.ntmps103
  go_upto_region 18 with fail
  rw [← HU.out]
  clear HU
  refine wp_cut4 40 41 42 43 (fun wx => Hid (St w wx w.heap.size (w.heap.size + 1) (Oct.join (Oct.none) (Oct.span 65 90)))) ?first1 ?rest1
  case first1 =>
    obtain ⟨⟨c0, c1, c2, c3⟩, ⟨f0, f1, f2, f3⟩, ⟨d0, d1, d2, d3⟩, ⟨g0, g1, g2, g3⟩⟩ := HS.out.facts
    have a0 : ∀ o : Obj, (u0.alloc o).cell? ⟨w.heap.size + 1, 0, none⟩ = some (.int .u64 (Oct.word (Oct.none) 0 : Nat)) := fun o => (HS.out.later ((Below.refl _ _).alloc (Nat.le_refl _) _)).facts.1.1
    have a1 : ∀ o : Obj, (u0.alloc o).cell? ⟨w.heap.size + 1, 1, none⟩ = some (.int .u64 (Oct.word (Oct.none) 1 : Nat)) := fun o => (HS.out.later ((Below.refl _ _).alloc (Nat.le_refl _) _)).facts.1.2.1
    have a2 : ∀ o : Obj, (u0.alloc o).cell? ⟨w.heap.size + 1, 2, none⟩ = some (.int .u64 (Oct.word (Oct.none) 2 : Nat)) := fun o => (HS.out.later ((Below.refl _ _).alloc (Nat.le_refl _) _)).facts.1.2.2.1
    have a3 : ∀ o : Obj, (u0.alloc o).cell? ⟨w.heap.size + 1, 3, none⟩ = some (.int .u64 (Oct.word (Oct.none) 3 : Nat)) := fun o => (HS.out.later ((Below.refl _ _).alloc (Nat.le_refl _) _)).facts.1.2.2.2
    go_region_with (first
      | (go_at_call 104; refine (span_gen 65 90 _ (by decide) (by decide)).mono ?_; rintro e wn ⟨rfl, kn⟩; have Hn : Hid (St w wn w.heap.size (w.heap.size + 1) (Oct.none)) := (by first | exact (HS.out.later (Below.refl _ _).drew).later kn | exact (HS.out.later (((Below.refl _ _).alloc (Nat.le_refl _) _).drew)).later kn); clear c0 c1 c2 c3 f0 f1 f2 f3 d0 d1 d2 d3 g0 g1 g2 g3; obtain ⟨⟨c0, c1, c2, c3⟩, ⟨f0, f1, f2, f3⟩, ⟨d0, d1, d2, d3⟩, ⟨g0, g1, g2, g3⟩⟩ := Hn.out.facts; clear kn)
      | (go_at_call 92; refine (join2_gen (sl2_new _ _ _ _ rfl)).mono ?_; rintro e wm ⟨rfl, km⟩; have Hm : Hid (St w wm w.heap.size (w.heap.size + 1) (Oct.none)) := (Hn.out.later ((Below.refl _ _).alloc (Nat.le_refl _) _)).later km; clear c0 c1 c2 c3 f0 f1 f2 f3 d0 d1 d2 d3 g0 g1 g2 g3; obtain ⟨⟨c0, c1, c2, c3⟩, ⟨f0, f1, f2, f3⟩, ⟨d0, d1, d2, d3⟩, ⟨g0, g1, g2, g3⟩⟩ := Hm.out.facts; clear km))
    all_goals
      exact ⟨rfl, ⟨_, _, _, _, rfl⟩, Hm.out.put (by omega) (by omega) (Oct.join (Oct.none) (Oct.span 65 90))⟩
  case rest1 =>
  intro x10 x11 x12 x13 u1 hcut a' ha'
  simp [Act.put] at ha'
  subst ha'
  clear HS
  have HS : Hid (St w u1 w.heap.size (w.heap.size + 1) (Oct.join (Oct.none) (Oct.span 65 90))) := hcut
  clear hcut
  go_upto_region 19 with fail
  refine wp_cut4 44 45 46 47 (fun wx => Hid (St w wx w.heap.size (w.heap.size + 1) (Oct.join (Oct.join (Oct.none) (Oct.span 65 90)) (Oct.span 97 122)))) ?first2 ?rest2
  case first2 =>
    obtain ⟨⟨c0, c1, c2, c3⟩, ⟨f0, f1, f2, f3⟩, ⟨d0, d1, d2, d3⟩, ⟨g0, g1, g2, g3⟩⟩ := HS.out.facts
    have a0 : ∀ o : Obj, (u1.alloc o).cell? ⟨w.heap.size + 1, 0, none⟩ = some (.int .u64 (Oct.word (Oct.join (Oct.none) (Oct.span 65 90)) 0 : Nat)) := fun o => (HS.out.later ((Below.refl _ _).alloc (Nat.le_refl _) _)).facts.1.1
    have a1 : ∀ o : Obj, (u1.alloc o).cell? ⟨w.heap.size + 1, 1, none⟩ = some (.int .u64 (Oct.word (Oct.join (Oct.none) (Oct.span 65 90)) 1 : Nat)) := fun o => (HS.out.later ((Below.refl _ _).alloc (Nat.le_refl _) _)).facts.1.2.1
    have a2 : ∀ o : Obj, (u1.alloc o).cell? ⟨w.heap.size + 1, 2, none⟩ = some (.int .u64 (Oct.word (Oct.join (Oct.none) (Oct.span 65 90)) 2 : Nat)) := fun o => (HS.out.later ((Below.refl _ _).alloc (Nat.le_refl _) _)).facts.1.2.2.1
    have a3 : ∀ o : Obj, (u1.alloc o).cell? ⟨w.heap.size + 1, 3, none⟩ = some (.int .u64 (Oct.word (Oct.join (Oct.none) (Oct.span 65 90)) 3 : Nat)) := fun o => (HS.out.later ((Below.refl _ _).alloc (Nat.le_refl _) _)).facts.1.2.2.2
    go_region_with (first
      | (go_at_call 104; refine (span_gen 97 122 _ (by decide) (by decide)).mono ?_; rintro e wn ⟨rfl, kn⟩; have Hn : Hid (St w wn w.heap.size (w.heap.size + 1) (Oct.join (Oct.none) (Oct.span 65 90))) := (by first | exact (HS.out.later (Below.refl _ _).drew).later kn | exact (HS.out.later (((Below.refl _ _).alloc (Nat.le_refl _) _).drew)).later kn); clear c0 c1 c2 c3 f0 f1 f2 f3 d0 d1 d2 d3 g0 g1 g2 g3; obtain ⟨⟨c0, c1, c2, c3⟩, ⟨f0, f1, f2, f3⟩, ⟨d0, d1, d2, d3⟩, ⟨g0, g1, g2, g3⟩⟩ := Hn.out.facts; clear kn)
      | (go_at_call 92; refine (join2_gen (sl2_new _ _ _ _ rfl)).mono ?_; rintro e wm ⟨rfl, km⟩; have Hm : Hid (St w wm w.heap.size (w.heap.size + 1) (Oct.join (Oct.none) (Oct.span 65 90))) := (Hn.out.later ((Below.refl _ _).alloc (Nat.le_refl _) _)).later km; clear c0 c1 c2 c3 f0 f1 f2 f3 d0 d1 d2 d3 g0 g1 g2 g3; obtain ⟨⟨c0, c1, c2, c3⟩, ⟨f0, f1, f2, f3⟩, ⟨d0, d1, d2, d3⟩, ⟨g0, g1, g2, g3⟩⟩ := Hm.out.facts; clear km))
    all_goals
      exact ⟨rfl, ⟨_, _, _, _, rfl⟩, Hm.out.put (by omega) (by omega) (Oct.join (Oct.join (Oct.none) (Oct.span 65 90)) (Oct.span 97 122))⟩
  case rest2 =>
  intro x20 x21 x22 x23 u2 hcut a' ha'
  simp [Act.put] at ha'
  subst ha'
  clear HS
  have HS : Hid (St w u2 w.heap.size (w.heap.size + 1) (Oct.join (Oct.join (Oct.none) (Oct.span 65 90)) (Oct.span 97 122))) := hcut
  clear hcut
  obtain ⟨⟨c0, c1, c2, c3⟩, ⟨f0, f1, f2, f3⟩, ⟨d0, d1, d2, d3⟩, ⟨g0, g1, g2, g3⟩⟩ := HS.out.facts
  go_wp2
  exact HS.out.ret2 Try.f103 rfl rfl rfl rfl (Nat.le_refl _) _ alpha (fun b hb => by
    rw [Bool.eq_iff_iff]
    try simp [Oct.join, Oct.none, Oct.span, alpha, upper, lower]
    try omega)
end Go.Proofs.Ytjmbimgofceanaa
