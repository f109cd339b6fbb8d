import Derived.Shelf.SlGeneric
import Derived.Shelf.SlIter.Nil
import Derived.Shelf.SortM.Plain
import Derived.Shelf.SortM.SortNone
import Derived.Shelf.Strconv.Clone
import Derived.Ground.GgzProg
import Derived.Ground.SlgmProg
import Derived.Ground.NamesProg
import Derived.Test.YthcoigbkdbkojaaGreatProg
import Derived.Test.YthcoigbkdbkojaaGreatK01
/-
  DERIVED: THE SHELF's CONTRACTS AT THIS DUMP, IN PLAIN WORDS (tools/lay-plain.mjs out of 'YthcoigbkdbkojaaGreatLaysRaw.lean', which tools/lay-shelf.mjs wrote): THE SAME DECLARATIONS UNDER THE SAME NAMES: 'import', 'namespace', 'open', 'def', 'theorem' AND NOTHING ELSE: no command of the shelf's: FOR A HAND-IN. Each laying: the table of numbers ('.._ren') and one theorem, a field a fact of the dump's own or the kernel's comparison; each contract: ONE APPLICATION.
-/
namespace Go.Proofs
open Go.Shelf
def Tryz.keys100_ren : Go.Shelf.Ren := ⟨fun | 7 => 100 | 10 => 138 | n => n, fun | 23 => 79 | 26 => 9 | 3 => 28 | 28 => 166 | 0 => 0 | 27 => 165 | 33 => 56 | 4 => 4 | n => n, fun | n => n⟩
theorem Tryz.keys100 : Go.Proofs.SlLaysZ.n7 Tryz.prog Tryz.keys100_ren := {
  mixed := by kernel_rfl
  f7 := ⟨Tryz.f100.name, by decide, Tryz.func100.trans (congrArg some (by kernel_rfl))⟩
  f10 := ⟨Tryz.f138.name, by decide, Tryz.func138.trans (congrArg some (by kernel_rfl))⟩
  t0 := Tryz.underlying0
  a0 := Tryz.isAgg0
  z0 := Tryz.sizeOf0
  v0 := Tryz.zeroValue0
  t4 := Tryz.underlying4
  a4 := Tryz.isAgg4
  z4 := Tryz.sizeOf4
  v4 := Tryz.zeroValue4
  t23 := Tryz.underlying79
  a23 := Tryz.isAgg79
  z23 := Tryz.sizeOf79
  v23 := Tryz.zeroValue79
  t26 := Tryz.underlying9
  a26 := Tryz.isAgg9
  z26 := Tryz.sizeOf9
  v26 := Tryz.zeroValue9
  t27 := Tryz.underlying165
  a27 := Tryz.isAgg165
  z27 := Tryz.sizeOf165
  v27 := Tryz.zeroValue165
  t28 := Tryz.underlying166
  a28 := Tryz.isAgg166
  z28 := Tryz.sizeOf166
  v28 := Tryz.zeroValue166
  t33 := Tryz.underlying56
  a33 := Tryz.isAgg56
  z33 := Tryz.sizeOf56
  v33 := Tryz.zeroValue56 }
def Tryz.sorted99_ren : Go.Shelf.Ren := ⟨fun | 6 => 99 | 8 => 136 | 9 => 137 | 11 => 172 | 13 => 174 | 12 => 173 | 23 => 196 | 24 => 197 | 14 => 187 | 15 => 188 | 16 => 189 | 17 => 190 | 18 => 191 | 19 => 192 | 20 => 193 | 21 => 194 | 22 => 195 | 25 => 210 | 26 => 211 | 27 => 212 | 28 => 213 | 29 => 214 | 30 => 215 | 31 => 219 | n => n, fun | 26 => 9 | 28 => 166 | 24 => 163 | 0 => 0 | 3 => 3 | 37 => 222 | 48 => 250 | 50 => 208 | 4 => 4 | 40 => 242 | 39 => 241 | 45 => 247 | 5 => 5 | 9 => 9 | 51 => 256 | 55 => 156 | 57 => 262 | 58 => 88 | 33 => 56 | n => n, fun | n => n⟩
theorem Tryz.sorted99 : Go.Proofs.SlLaysZ.n6 Tryz.prog Tryz.sorted99_ren := {
  mixed := by kernel_rfl
  f6 := ⟨Tryz.f99.name, by decide, Tryz.func99.trans (congrArg some (by kernel_rfl))⟩
  f8 := ⟨Tryz.f136.name, by decide, Tryz.func136.trans (congrArg some (by kernel_rfl))⟩
  f11 := ⟨Tryz.f172.name, by decide, Tryz.func172.trans (congrArg some (by kernel_rfl))⟩
  t0 := Tryz.underlying0
  a0 := Tryz.isAgg0
  z0 := Tryz.sizeOf0
  v0 := Tryz.zeroValue0
  t24 := Tryz.underlying163
  a24 := Tryz.isAgg163
  z24 := Tryz.sizeOf163
  v24 := Tryz.zeroValue163
  t26 := Tryz.underlying9
  a26 := Tryz.isAgg9
  z26 := Tryz.sizeOf9
  v26 := Tryz.zeroValue9
  t28 := Tryz.underlying166
  a28 := Tryz.isAgg166
  z28 := Tryz.sizeOf166
  v28 := Tryz.zeroValue166
  i26 := by kernel_rfl }
def Tryz.sort137_ren : Go.Shelf.Ren := ⟨fun | 6 => 137 | 8 => 174 | 9 => 173 | 19 => 196 | 20 => 197 | 21 => 187 | 22 => 188 | 23 => 189 | 24 => 190 | 25 => 191 | 26 => 192 | 27 => 193 | 28 => 194 | 29 => 195 | 36 => 210 | 31 => 211 | 32 => 212 | 37 => 213 | 38 => 214 | 39 => 215 | 41 => 219 | n => n, fun | 27 => 163 | 29 => 9 | 3 => 3 | 32 => 222 | 26 => 163 | 0 => 0 | 44 => 250 | 46 => 208 | 4 => 4 | 36 => 242 | 35 => 241 | 41 => 247 | 5 => 5 | 9 => 9 | 53 => 256 | 57 => 156 | 63 => 262 | 64 => 88 | n => n, fun | n => n⟩
theorem Tryz.sort137 : Go.Proofs.SlLaysM.n6 Tryz.prog Tryz.sort137_ren := {
  mixed := by kernel_rfl
  f6 := ⟨Tryz.f137.name, by decide, Tryz.func137.trans (congrArg some (by kernel_rfl))⟩
  f8 := Tryz.func174.trans (congrArg some (by kernel_rfl))
  f9 := ⟨Tryz.f173.name, by decide, Tryz.func173.trans (congrArg some (by kernel_rfl))⟩
  f19 := Tryz.func196.trans (congrArg some (by kernel_rfl))
  f20 := Tryz.func197.trans (congrArg some (by kernel_rfl))
  f21 := ⟨Tryz.f187.name, by decide, Tryz.func187.trans (congrArg some (by kernel_rfl))⟩
  f22 := ⟨Tryz.f188.name, by decide, Tryz.func188.trans (congrArg some (by kernel_rfl))⟩
  f23 := ⟨Tryz.f189.name, by decide, Tryz.func189.trans (congrArg some (by kernel_rfl))⟩
  f24 := ⟨Tryz.f190.name, by decide, Tryz.func190.trans (congrArg some (by kernel_rfl))⟩
  f25 := ⟨Tryz.f191.name, by decide, Tryz.func191.trans (congrArg some (by kernel_rfl))⟩
  f26 := ⟨Tryz.f192.name, by decide, Tryz.func192.trans (congrArg some (by kernel_rfl))⟩
  f27 := ⟨Tryz.f193.name, by decide, Tryz.func193.trans (congrArg some (by kernel_rfl))⟩
  f28 := ⟨Tryz.f194.name, by decide, Tryz.func194.trans (congrArg some (by kernel_rfl))⟩
  f29 := ⟨Tryz.f195.name, by decide, Tryz.func195.trans (congrArg some (by kernel_rfl))⟩
  f31 := Tryz.func211.trans (congrArg some (by kernel_rfl))
  f32 := Tryz.func212.trans (congrArg some (by kernel_rfl))
  f36 := ⟨Tryz.f210.name, by decide, Tryz.func210.trans (congrArg some (by kernel_rfl))⟩
  f37 := ⟨Tryz.f213.name, by decide, Tryz.func213.trans (congrArg some (by kernel_rfl))⟩
  f38 := ⟨Tryz.f214.name, by decide, Tryz.func214.trans (congrArg some (by kernel_rfl))⟩
  f39 := ⟨Tryz.f215.name, by decide, Tryz.func215.trans (congrArg some (by kernel_rfl))⟩
  f41 := ⟨Tryz.f219.name, by decide, Tryz.func219.trans (congrArg some (by kernel_rfl))⟩
  t0 := Tryz.underlying0
  a0 := Tryz.isAgg0
  z0 := Tryz.sizeOf0
  v0 := Tryz.zeroValue0
  t3 := Tryz.underlying3
  a3 := Tryz.isAgg3
  z3 := Tryz.sizeOf3
  v3 := Tryz.zeroValue3
  t4 := Tryz.underlying4
  a4 := Tryz.isAgg4
  z4 := Tryz.sizeOf4
  v4 := Tryz.zeroValue4
  t5 := Tryz.underlying5
  a5 := Tryz.isAgg5
  z5 := Tryz.sizeOf5
  v5 := Tryz.zeroValue5
  t9 := Tryz.underlying9
  a9 := Tryz.isAgg9
  z9 := Tryz.sizeOf9
  v9 := Tryz.zeroValue9
  t26 := Tryz.underlying163
  a26 := Tryz.isAgg163
  z26 := Tryz.sizeOf163
  v26 := Tryz.zeroValue163
  t27 := Tryz.underlying163
  a27 := Tryz.isAgg163
  z27 := Tryz.sizeOf163
  v27 := Tryz.zeroValue163
  t29 := Tryz.underlying9
  a29 := Tryz.isAgg9
  z29 := Tryz.sizeOf9
  v29 := Tryz.zeroValue9
  t32 := Tryz.underlying222
  a32 := Tryz.isAgg222
  z32 := Tryz.sizeOf222
  v32 := Tryz.zeroValue222
  t35 := Tryz.underlying241
  a35 := Tryz.isAgg241
  z35 := Tryz.sizeOf241
  v35 := Tryz.zeroValue241
  t36 := Tryz.underlying242
  a36 := Tryz.isAgg242
  z36 := Tryz.sizeOf242
  v36 := Tryz.zeroValue242
  t41 := Tryz.underlying247
  a41 := Tryz.isAgg247
  z41 := Tryz.sizeOf247
  v41 := Tryz.zeroValue247
  t44 := Tryz.underlying250
  a44 := Tryz.isAgg250
  z44 := Tryz.sizeOf250
  v44 := Tryz.zeroValue250
  t46 := Tryz.underlying208
  a46 := Tryz.isAgg208
  z46 := Tryz.sizeOf208
  v46 := Tryz.zeroValue208
  t53 := Tryz.underlying256
  a53 := Tryz.isAgg256
  z53 := Tryz.sizeOf256
  v53 := Tryz.zeroValue256
  t57 := Tryz.underlying156
  a57 := Tryz.isAgg156
  z57 := Tryz.sizeOf156
  v57 := Tryz.zeroValue156
  t63 := Tryz.underlying262
  a63 := Tryz.isAgg262
  z63 := Tryz.sizeOf262
  v63 := Tryz.zeroValue262
  t64 := Tryz.underlying88
  a64 := Tryz.isAgg88
  z64 := Tryz.sizeOf88
  v64 := Tryz.zeroValue88 }
def Tryz.laysM316_ren : Go.Shelf.Ren := ⟨fun | 316 => 115 | n => n, fun | 9 => 9 | 3 => 3 | 4 => 4 | 37 => 201 | 0 => 0 | 127 => 202 | 5 => 5 | n => n, fun | n => n⟩
theorem Tryz.laysM316 : Go.Proofs.LaysM.n316 Tryz.prog Tryz.laysM316_ren := {
  mixed := by kernel_rfl
  f316 := Tryz.func115.trans (congrArg some (by kernel_rfl))
  t0 := Tryz.underlying0
  a0 := Tryz.isAgg0
  z0 := Tryz.sizeOf0
  v0 := Tryz.zeroValue0
  t3 := Tryz.underlying3
  a3 := Tryz.isAgg3
  z3 := Tryz.sizeOf3
  v3 := Tryz.zeroValue3
  t4 := Tryz.underlying4
  a4 := Tryz.isAgg4
  z4 := Tryz.sizeOf4
  v4 := Tryz.zeroValue4
  t9 := Tryz.underlying9
  a9 := Tryz.isAgg9
  z9 := Tryz.sizeOf9
  v9 := Tryz.zeroValue9
  t37 := Tryz.underlying201
  a37 := Tryz.isAgg201
  z37 := Tryz.sizeOf201
  v37 := Tryz.zeroValue201
  t127 := Tryz.underlying202
  a127 := Tryz.isAgg202
  z127 := Tryz.sizeOf202
  v127 := Tryz.zeroValue202
  t5 := Tryz.underlying5
  a5 := Tryz.isAgg5
  z5 := Tryz.sizeOf5
  v5 := Tryz.zeroValue5
  i0 := by kernel_rfl
  i3 := by kernel_rfl
  i4 := by kernel_rfl
  i5 := by kernel_rfl
  i9 := by kernel_rfl
  i37 := by kernel_rfl
  i127 := by kernel_rfl }
end Go.Proofs

namespace Go.Proofs.YthcoigbkdbkojaaGreat
open Go.RowKit

abbrev emp : ByteArray := ⟨#[]⟩

theorem chd_cases (k i : Int) (s : ByteArray) : (k = 1 ∧ s = emp ∧ chd k i s = .iface 181 (.int .i64 i)) ∨ (k = 2 ∧ i = 0 ∧ s.size ≤ 256 ∧ chd k i s = .iface 182 (.string s)) ∨
    (chd k i s = .nilIface ∧ ¬ (k = 1 ∧ s = emp) ∧ ¬ (k = 2 ∧ i = 0 ∧ s.size ≤ 256)) := by
  unfold chd
  by_cases h1 : k = 1
  · subst h1
    by_cases hs : s = emp
    · subst hs
      exact .inl ⟨rfl, rfl, by simp [chk, thing]⟩
    · exact .inr (.inr ⟨by simp [chk, hs], by simp [hs], by simp⟩)
  · by_cases h2 : k = 2
    · subst h2
      by_cases hi : i = 0
      · subst hi
        by_cases hg : 256 < s.size
        · exact .inr (.inr ⟨by simp [chk, hg], by simp, by simp; omega⟩)
        · exact .inr (.inl ⟨rfl, rfl, by omega, by simp [chk, hg, thing]⟩)
      · exact .inr (.inr ⟨by simp [chk, hi], by simp, by simp [hi]⟩)
    · refine .inr (.inr ⟨?_, by simp [h1], by simp [h2]⟩)
      split
      · exact thing0 i s h1 h2
      · rfl

theorem three (w : World) (a b c : Obj) : (((w.alloc a).alloc b).alloc c).heap[w.heap.size]? = some a ∧ (((w.alloc a).alloc b).alloc c).heap[w.heap.size + 1]? = some b ∧
    (((w.alloc a).alloc b).alloc c).heap[w.heap.size + 1 + 1]? = some c ∧ Below w.heap.size w (((w.alloc a).alloc b).alloc c) := by
  refine ⟨?_, ?_, ?_, (below2 w a b).alloc (by simp; omega) c⟩
  · rw [Below.heap_alloc _ _ _ (by simp; omega)]; exact two1 w a b
  · rw [Below.heap_alloc _ _ _ (by simp)]; exact two2 w a b
  · have := heap_alloc_new ((w.alloc a).alloc b) c
    simpa using this

theorem blk_drewN {B : Nat} {w w1 : World} {r m : Nat} {o : Obj} (h : Below B (w.drewN m) w1) (hr : w.heap[r]? = some o) (hB : r < B) : w1.heap[r]? = some o := (h.block r hB).trans hr

theorem below_on {w0 w w1 : World} (h0 : Below w0.heap.size w0 w) (h : Below w.heap.size w w1) : Below w0.heap.size w0 w1 := h0.trans (h.mono h0.size)

theorem below_drewN {w0 w w1 : World} {m : Nat} (h0 : Below w0.heap.size w0 w) (h : Below w.heap.size (w.drewN m) w1) : Below w0.heap.size w0 w1 := by
  have h' : Below w.heap.size w w1 := ⟨h.os, h.tape, h.output, h.size, h.block⟩
  exact below_on h0 h'

set_option maxRecDepth 100000 in
set_option maxHeartbeats 800000 in
theorem sum_any (x y : Int) (w : World) : Calls Tryz.prog 163 #[.int .i64 x, .int .i64 y] w fun e w' => e = .returned (.tuple #[.int .i64 (wrap64 (x + y)), .bool (decide (x < wrap64 (x + y)) == decide (0 < y))]) ∧ w' = w := by
  go_enter Tryz.func163, Tryz.ntmps163
  go_wp2
  go_ret2
  exact ⟨rfl, rfl⟩

set_option maxRecDepth 100000 in
set_option maxHeartbeats 800000 in
theorem diff_any (x y : Int) (w : World) : Calls Tryz.prog 164 #[.int .i64 x, .int .i64 y] w fun e w' => e = .returned (.tuple #[.int .i64 (wrap64 (x - y)), .bool (decide (wrap64 (x - y) < x) == decide (0 < y))]) ∧ w' = w := by
  go_enter Tryz.func164, Tryz.ntmps164
  go_wp2
  go_ret2
  exact ⟨rfl, rfl⟩

set_option maxRecDepth 100000 in
set_option maxHeartbeats 800000 in
theorem size_any (x : Int) (w : World) (h0 : -9223372036854775808 ≤ x) (h1 : x ≤ 9223372036854775807) : Calls Tryz.prog 183 #[.int .i64 x] w fun e w' => e = .returned (.int .u64 (x.natAbs : Nat)) ∧ w' = w := by
  by_cases hx : x < 0
  · go_enter Tryz.func183, Tryz.ntmps183
    go_wp2
    go_ret
    refine ⟨?_, rfl⟩
    have : IntKind.u64.wrap (-IntKind.u64.wrap x) = (x.natAbs : Int) := by
      rw [IntKind.wrap_u64, IntKind.wrap_u64]; omega
    rw [← this]
    rfl
  · go_enter Tryz.func183, Tryz.ntmps183
    go_wp2
    go_ret
    refine ⟨?_, rfl⟩
    have : x = (x.natAbs : Int) := by omega
    rw [← this]
    rfl

theorem sliteClone_any (s : ByteArray) (w : World) (hlim : s.size ≤ 281474976710656) :
    Calls Tryz.prog 115 #[.string s] w fun e w' => e = .returned (.string s) ∧ Below w.heap.size w w' := Any.stringslite_Clone Tryz.laysM316 s w hlim

set_option maxRecDepth 100000 in
set_option maxHeartbeats 800000 in
theorem strClone_any (s : ByteArray) (w : World) (hlim : s.size ≤ 281474976710656) :
    Calls Tryz.prog 70 #[.string s] w fun e w' => e = .returned (.string s) ∧ Below w.heap.size w w' := by
  go_enter Tryz.func70, Tryz.ntmps70
  go_wp2_with (go_at_call 115; refine (sliteClone_any s _ hlim).mono ?_; rintro e w' ⟨rfl, hb⟩)
  go_ret
  exact ⟨rfl, hb⟩

set_option maxRecDepth 100000 in
set_option maxHeartbeats 800000 in
theorem number_any (x : Int) (w : World) : Calls Tryz.prog 22 #[.int .i64 x] w fun e w' => e = .returned (vl 1 x emp) ∧ Below w.heap.size w w' := by
  go_enter Tryz.func22, Tryz.ntmps22
  go_wp2
  go_returns
  exact ⟨rfl, below1 w _⟩

set_option maxRecDepth 100000 in
set_option maxHeartbeats 800000 in
theorem text_any (s : ByteArray) (w : World) : Calls Tryz.prog 23 #[.string s] w fun e w' => e = .returned (vl 2 0 s) ∧ Below w.heap.size w w' := by
  go_enter Tryz.func23, Tryz.ntmps23
  go_wp2
  go_returns
  exact ⟨rfl, below1 w _⟩

/-- Is a text a key? -/
def isKeyB (s : ByteArray) : Bool := decide (0 < s.size ∧ s.size ≤ 64)

set_option maxRecDepth 100000 in
set_option maxHeartbeats 800000 in
theorem isKey_any (s : ByteArray) (w : World) : Calls Tryz.prog 180 #[.string s] w fun e w' => e = .returned (.bool (isKeyB s)) ∧ w' = w := by
  obtain ⟨b, hb⟩ : ∃ b, b = isKeyB s := ⟨_, rfl⟩
  rw [← hb]
  have HB := hid hb
  clear hb
  by_cases h0 : (0 : Int) < s.size
  · by_cases h1 : (s.size : Int) ≤ 64
    · go_enter Tryz.func180, Tryz.ntmps180
      go_wp2
      go_ret
      exact ⟨by rw [HB.out, show isKeyB s = true by unfold isKeyB; simp; omega]; rfl, rfl⟩
    · go_enter Tryz.func180, Tryz.ntmps180
      go_wp2
      go_ret
      exact ⟨by rw [HB.out, show isKeyB s = false by unfold isKeyB; simp; omega]; rfl, rfl⟩
  · go_enter Tryz.func180, Tryz.ntmps180
    go_wp2
    go_ret
    exact ⟨by rw [HB.out, show isKeyB s = false by unfold isKeyB; simp; omega]; rfl, rfl⟩

end Go.Proofs.YthcoigbkdbkojaaGreat

namespace Go.Proofs.YthcoigbkdbkojaaGreat
open Go.RowKit

/-- Is a number within 64 binary digits? -/
def inR (z : Int) : Bool := decide (-9223372036854775808 ≤ z ∧ z ≤ 9223372036854775807)

/-- What a way to reckon answers of x and y: v, if that is within 64 digits. -/
def Reck (F : Nat) (x y v : Int) : Prop := ∀ w : World, Calls Tryz.prog F #[.int .i64 x, .int .i64 y] w fun e w' => (∃ z, e = .returned (.tuple #[.int .i64 z, .bool (inR v)]) ∧ (inR v = true → z = v)) ∧ w' = w

theorem sum_reck (x y : Int) (hx : inR x = true) (hy : inR y = true) : Reck 163 x y (x + y) := by
  intro w
  refine (sum_any x y w).mono ?_
  rintro e w' ⟨rfl, rfl⟩
  unfold inR at *
  simp at hx hy
  refine ⟨⟨wrap64 (x + y), ?_, ?_⟩, rfl⟩
  · have e : (decide (x < wrap64 (x + y)) == decide (0 < y)) = decide (-9223372036854775808 ≤ x + y ∧ x + y ≤ 9223372036854775807) := by
      rw [Bool.eq_iff_iff]
      simp [wrap64]
      omega
    rw [e]
  · intro h
    simp at h
    simp [wrap64]
    omega

theorem diff_reck (x y : Int) (hx : inR x = true) (hy : inR y = true) : Reck 164 x y (x - y) := by
  intro w
  refine (diff_any x y w).mono ?_
  rintro e w' ⟨rfl, rfl⟩
  unfold inR at *
  simp at hx hy
  refine ⟨⟨wrap64 (x - y), ?_, ?_⟩, rfl⟩
  · have e : (decide (wrap64 (x - y) < x) == decide (0 < y)) = decide (-9223372036854775808 ≤ x - y ∧ x - y ≤ 9223372036854775807) := by
      rw [Bool.eq_iff_iff]
      simp [wrap64]
      omega
    rw [e]
  · intro h
    simp at h
    simp [wrap64]
    omega

theorem mul_abs (x y : Int) : ((x.natAbs * y.natAbs : Nat) : Int) = if (x < 0) = (y < 0) then x * y else -(x * y) := by
  rcases Int.lt_or_le x 0 with hx | hx <;> rcases Int.lt_or_le y 0 with hy | hy
  · rw [if_pos (by simp [hx, hy])]
    rw [Int.natCast_mul, show (x.natAbs : Int) = -x by omega, show (y.natAbs : Int) = -y by omega, Int.neg_mul_neg]
  · rw [if_neg (by simp [hx]; omega)]
    rw [Int.natCast_mul, show (x.natAbs : Int) = -x by omega, show (y.natAbs : Int) = y by omega, Int.neg_mul]
  · rw [if_neg (by simp [hy]; omega)]
    rw [Int.natCast_mul, show (x.natAbs : Int) = x by omega, show (y.natAbs : Int) = -y by omega, Int.mul_neg]
  · rw [if_pos (by simp; omega)]
    rw [Int.natCast_mul, show (x.natAbs : Int) = x by omega, show (y.natAbs : Int) = y by omega]

end Go.Proofs.YthcoigbkdbkojaaGreat

namespace Go.Proofs.YthcoigbkdbkojaaGreat
open Go.RowKit

/-- What comes of two integers. -/
def rckV (v : Int) : Value := if inR v = true then .tuple #[vl 1 v emp, .int .i64 0] else .tuple #[vl 0 0 emp, .int .i64 15]

/-- Is a value an integer? -/
def isI (k : Int) (s : ByteArray) : Bool := decide (k = 1 ∧ s = emp)

theorem ta_chd (k i : Int) (s : ByteArray) : ∃ x, (isI k s = true → x = i) ∧ ∀ w : World, (Instr.typeAssert (chd k i s) 159 181 true).run Tryz.prog w = .ok (.tuple #[.int .i64 x, .bool (isI k s)]) w := by
  rcases chd_cases k i s with ⟨rfl, rfl, h⟩ | ⟨rfl, rfl, h2, h⟩ | ⟨h, h1, h2⟩
  · refine ⟨i, fun _ => rfl, fun w => ?_⟩
    rw [h, ta60, show isI 1 emp = true by simp [isI]]
  · refine ⟨0, fun h => by simp [isI] at h, fun w => ?_⟩
    rw [h, ta6260, show isI 2 s = false by simp [isI]]
  · have e : isI k s = false := by simpa [isI] using h1
    refine ⟨0, fun h => (by rw [e] at h; cases h), fun w => ?_⟩
    rw [h, tan60, e]

/-- What a reckoning answers. -/
def rckT (a b : Bool) (v : Int) : Value := if (a && b) = true then rckV v else .tuple #[vl 0 0 emp, .int .i64 14]

set_option maxRecDepth 100000 in
set_option maxHeartbeats 1600000 in
theorem reckon_any (F : Nat) (k i : Int) (s : ByteArray) (l j : Int) (t : ByteArray) (v : Int) (hF : isI k s = true → isI l t = true → Reck F i j v) (hE : ∀ args w, (callFunc F args).run Tryz.prog w = .ok (.enter F args) w) (w : World) :
    Calls Tryz.prog 162 #[.func (.func F) #[] #[], vl k i s, vl l j t] w fun e w' => e = .returned (rckT (isI k s) (isI l t) v) ∧ Below w.heap.size w w' := by
  obtain ⟨hA, hB, hC, h0⟩ := three w (vo k i s) (vo l j t) (vo 0 0 emp)
  have HB := hid hB
  have HC := hid hC
  have H0 := hid h0
  clear hA hB hC h0
  obtain ⟨x, hx, qx⟩ := ta_chd k i s
  obtain ⟨y, hy, qy⟩ := ta_chd l j t
  have ha := checked_any k i s
  have hb := checked_any l j t
  obtain ⟨ca, hca⟩ : ∃ ca, ca = chd k i s := ⟨_, rfl⟩
  obtain ⟨cb, hcb⟩ : ∃ cb, cb = chd l j t := ⟨_, rfl⟩
  obtain ⟨ba, hba⟩ : ∃ ba, ba = isI k s := ⟨_, rfl⟩
  obtain ⟨bb, hbb⟩ : ∃ bb, bb = isI l t := ⟨_, rfl⟩
  rw [← hca] at ha qx
  rw [← hcb] at hb qy
  rw [← hba] at qx hx hF ⊢
  rw [← hbb] at qy hy hF ⊢
  have PA := hid ha
  have PB := hid hb
  clear ha hb hca hcb hba hbb
  have armA : ∀ w1 : World, Below (((w.alloc (vo k i s)).alloc (vo l j t)).alloc (vo 0 0 emp)).heap.size (((w.alloc (vo k i s)).alloc (vo l j t)).alloc (vo 0 0 emp)) w1 → w1.heap[w.heap.size + 1]? = some (vo l j t) ∧ w1.heap[w.heap.size + 1 + 1]? = some (vo 0 0 emp) ∧ Below w.heap.size w w1 := by
    intro w1 h
    exact ⟨blk_of h HB.out (by simp), blk_of h HC.out (by simp), below_on H0.out h⟩
  have HArm := hid armA
  clear armA HB HC H0
  by_cases hab : (ba && bb) = true
  · have e1 : ba = true := by revert hab; cases ba <;> simp
    have e2 : bb = true := by revert hab; cases bb <;> simp
    subst e1
    subst e2
    have ex : i = x := (hx rfl).symm
    have ey : j = y := (hy rfl).symm
    subst ex
    subst ey
    have HF := hid (hF rfl rfl)
    clear hx hy hF hab
    obtain ⟨r, hr⟩ : ∃ r, r = inR v := ⟨_, rfl⟩
    have HR := hid hr
    clear hr
    cases r
    · go_enter Tryz.func162, Tryz.ntmps162
      go_wp2_with (first
        | (go_at_call 166
           (with_reducible show Calls _ _ #[vl k i s] _ _)
           refine (PA.out _).mono ?_
           rintro e w1 ⟨rfl, hb1⟩
           obtain ⟨g1, g2, g3⟩ := HArm.out w1 hb1
           obtain ⟨d0, d1, d2, -⟩ := vfacts g1
           have H1 := hid (And.intro g2 g3)
           clear hb1 g1 g2 g3 HArm)
        | (go_at_call 166
           refine (PB.out _).mono ?_
           rintro e w2 ⟨rfl, hb2⟩
           have g2 := blk_of hb2 H1.out.1 (lt_of H1.out.1)
           obtain ⟨c0, c1, c2, ff⟩ := vfacts g2
           have H2 := hid (And.intro g2 (below_on H1.out.2 hb2))
           clear hb2 g2)
        | (go_at_fn F
           refine (HF.out _).mono ?_
           rintro e w3 ⟨⟨z, rfl, -⟩, e3⟩
           rw [e3]
           rw [← HR.out]
           clear e3 w3))
      refine bodyPost_ret (ret_agg2 Tryz.results162 rfl (set3 H2.out.1 _ _ _)) rfl ?_
      exact ⟨by simp [rckT, rckV, ← HR.out], Below.set3 H2.out.2 (by omega) _ _ _⟩
    · go_enter Tryz.func162, Tryz.ntmps162
      go_wp2_with (first
        | (go_at_call 166
           (with_reducible show Calls _ _ #[vl k i s] _ _)
           refine (PA.out _).mono ?_
           rintro e w1 ⟨rfl, hb1⟩
           obtain ⟨g1, g2, g3⟩ := HArm.out w1 hb1
           obtain ⟨d0, d1, d2, -⟩ := vfacts g1
           have H1 := hid (And.intro g2 g3)
           clear hb1 g1 g2 g3 HArm)
        | (go_at_call 166
           refine (PB.out _).mono ?_
           rintro e w2 ⟨rfl, hb2⟩
           have g2 := blk_of hb2 H1.out.1 (lt_of H1.out.1)
           obtain ⟨c0, c1, c2, ff⟩ := vfacts g2
           have H2 := hid (And.intro g2 (below_on H1.out.2 hb2))
           clear hb2 g2)
        | (go_at_fn F
           refine (HF.out _).mono ?_
           rintro e w3 ⟨⟨z, rfl, hz⟩, e3⟩
           have hz2 := hz HR.out.symm
           rw [e3, hz2]
           rw [← HR.out]
           clear e3 w3 hz hz2)
        | (go_at_call 181
           refine (ivalue_any _ _).mono ?_
           rintro e w4 ⟨rfl, hb4⟩
           have g4 := blk_of hb4 H2.out.1 (lt_of H2.out.1)
           obtain ⟨c0, c1, c2, ff⟩ := vfacts g4
           have H4 := hid (And.intro g4 (below_on H2.out.2 hb4))
           clear hb4 g4))
      refine bodyPost_ret (ret_agg2 Tryz.results162 rfl (set3 H4.out.1 _ _ _)) rfl ?_
      exact ⟨by simp [rckT, rckV, ← HR.out], Below.set3 H4.out.2 (by omega) _ _ _⟩
  · have e3 : rckT ba bb v = .tuple #[vl 0 0 emp, .int .i64 14] := by unfold rckT; rw [if_neg hab]
    rw [e3]
    clear e3 hx hy hF
    revert hab
    cases ba <;> cases bb <;> intro hab
    case true.true => exact absurd rfl hab
    all_goals
      clear hab
      go_enter Tryz.func162, Tryz.ntmps162
      go_wp2_with (first
        | (go_at_call 166
           (with_reducible show Calls _ _ #[vl k i s] _ _)
           refine (PA.out _).mono ?_
           rintro e w1 ⟨rfl, hb1⟩
           obtain ⟨g1, g2, g3⟩ := HArm.out w1 hb1
           obtain ⟨d0, d1, d2, -⟩ := vfacts g1
           have H1 := hid (And.intro g2 g3)
           clear hb1 g1 g2 g3 HArm)
        | (go_at_call 166
           refine (PB.out _).mono ?_
           rintro e w2 ⟨rfl, hb2⟩
           have g2 := blk_of hb2 H1.out.1 (lt_of H1.out.1)
           obtain ⟨c0, c1, c2, ff⟩ := vfacts g2
           have H2 := hid (And.intro g2 (below_on H1.out.2 hb2))
           clear hb2 g2))
      refine bodyPost_ret (ret_agg2 Tryz.results162 rfl (set3 H2.out.1 _ _ _)) rfl ?_
      exact ⟨rfl, Below.set3 H2.out.2 (by omega) _ _ _⟩

end Go.Proofs.YthcoigbkdbkojaaGreat

namespace Go.Proofs.YthcoigbkdbkojaaGreat
open Go.RowKit

theorem rckT_shape (a b : Bool) (v : Int) : ∃ x y z u, rckT a b v = .tuple #[vl x y z, .int .i64 u] := by
  unfold rckT rckV
  split
  · split
    · exact ⟨_, _, _, _, rfl⟩
    · exact ⟨_, _, _, _, rfl⟩
  · exact ⟨_, _, _, _, rfl⟩

set_option maxRecDepth 100000 in
set_option maxHeartbeats 800000 in
theorem add_any (k i : Int) (s : ByteArray) (l j : Int) (t : ByteArray) (hi : inR i = true) (hj : inR j = true) (w : World) :
    Calls Tryz.prog 125 #[vl k i s, vl l j t] w fun e w' => e = .returned (rckT (isI k s) (isI l t) (i + j)) ∧ Below w.heap.size w w' := by
  obtain ⟨-, -, hC, h0⟩ := three w (vo k i s) (vo l j t) (vo 0 0 emp)
  have HC := hid hC
  have H0 := hid h0
  clear hC h0
  have hr := hid (reckon_any 163 k i s l j t (i + j) (fun _ _ => sum_reck i j hi hj) (enters_of Tryz.func163 (by kernel_rfl) rfl))
  have hsh := hid (rckT_shape (isI k s) (isI l t) (i + j))
  go_enter Tryz.func125, Tryz.ntmps125
  go_wp2_with (
    go_at_call 162
    refine (hr.out _).mono ?_
    rintro e w1 ⟨rfl, hb1⟩
    obtain ⟨a, b, c, d, hs⟩ := hsh.out
    rw [hs]
    have g2 := blk_of hb1 HC.out (by simp)
    obtain ⟨c0, c1, c2, ff⟩ := vfacts g2
    have HS := hid hs
    have H1 := hid (And.intro g2 (below_on H0.out hb1))
    clear hb1 g2 hs)
  refine bodyPost_ret (ret_agg2 Tryz.results125 rfl (set3 H1.out.1 _ _ _)) rfl ?_
  exact ⟨by rw [HS.out]; rfl, Below.set3 H1.out.2 (by omega) _ _ _⟩

set_option maxRecDepth 100000 in
set_option maxHeartbeats 800000 in
theorem sub_any (k i : Int) (s : ByteArray) (l j : Int) (t : ByteArray) (hi : inR i = true) (hj : inR j = true) (w : World) :
    Calls Tryz.prog 126 #[vl k i s, vl l j t] w fun e w' => e = .returned (rckT (isI k s) (isI l t) (i - j)) ∧ Below w.heap.size w w' := by
  obtain ⟨-, -, hC, h0⟩ := three w (vo k i s) (vo l j t) (vo 0 0 emp)
  have HC := hid hC
  have H0 := hid h0
  clear hC h0
  have hr := hid (reckon_any 164 k i s l j t (i - j) (fun _ _ => diff_reck i j hi hj) (enters_of Tryz.func164 (by kernel_rfl) rfl))
  have hsh := hid (rckT_shape (isI k s) (isI l t) (i - j))
  go_enter Tryz.func126, Tryz.ntmps126
  go_wp2_with (
    go_at_call 162
    refine (hr.out _).mono ?_
    rintro e w1 ⟨rfl, hb1⟩
    obtain ⟨a, b, c, d, hs⟩ := hsh.out
    rw [hs]
    have g2 := blk_of hb1 HC.out (by simp)
    obtain ⟨c0, c1, c2, ff⟩ := vfacts g2
    have HS := hid hs
    have H1 := hid (And.intro g2 (below_on H0.out hb1))
    clear hb1 g2 hs)
  refine bodyPost_ret (ret_agg2 Tryz.results126 rfl (set3 H1.out.1 _ _ _)) rfl ?_
  exact ⟨by rw [HS.out]; rfl, Below.set3 H1.out.2 (by omega) _ _ _⟩

/-- The key that a value is. -/
def keyV (k i : Int) (s : ByteArray) : Value := if k = 2 ∧ i = 0 ∧ s.size ≤ 256 then (if isKeyB s = true then .tuple #[.string s, .int .i64 0] else .tuple #[.string emp, .int .i64 5]) else .tuple #[.string emp, .int .i64 14]

set_option maxRecDepth 100000 in
set_option maxHeartbeats 800000 in
theorem key_any (k i : Int) (s : ByteArray) (w : World) : Calls Tryz.prog 160 #[vl k i s] w fun e w' => e = .returned (keyV k i s) ∧ Below w.heap.size w w' := by
  have hB0 := hid (below1 w (vo k i s))
  have q1 := ta6062
  have q2 := ta62
  have q3 := tan62
  have ha := checked_any k i s
  rcases chd_cases k i s with ⟨rfl, rfl, h⟩ | ⟨rfl, rfl, h2, h⟩ | ⟨h, h1, h2⟩
  · rw [h] at ha
    have PA := hid ha
    have hk : keyV 1 i emp = .tuple #[.string emp, .int .i64 14] := by unfold keyV; rw [if_neg (by omega)]
    rw [hk]
    clear ha h hk
    go_enter Tryz.func160, Tryz.ntmps160
    go_wp2_with (
       go_at_call 166
       refine (PA.out _).mono ?_
       rintro e w1 ⟨rfl, hb1⟩
       have H1 := hid (below_on hB0.out hb1)
       clear hb1)
    go_ret2
    exact ⟨rfl, H1.out⟩
  · rw [h] at ha
    have PA := hid ha
    clear ha h
    obtain ⟨b, hb⟩ : ∃ b, b = isKeyB s := ⟨_, rfl⟩
    have hik := isKey_any s
    rw [← hb] at hik
    have HK := hid hik
    have hk : keyV 2 0 s = if b = true then .tuple #[.string s, .int .i64 0] else .tuple #[.string emp, .int .i64 5] := by unfold keyV; rw [if_pos ⟨rfl, rfl, h2⟩, hb]
    rw [hk]
    clear hik hb hk
    cases b
    all_goals
      go_enter Tryz.func160, Tryz.ntmps160
      go_wp2_with (first
       | (go_at_call 166
          refine (PA.out _).mono ?_
          rintro e w1 ⟨rfl, hb1⟩
          have H1 := hid (below_on hB0.out hb1)
          clear hb1)
       | (go_at_call 180
          refine (HK.out _).mono ?_
          rintro e w2 ⟨rfl, e2⟩
          rw [e2]
          clear e2 w2)
       | (go_at_call 70
          refine (strClone_any s _ (by omega)).mono ?_
          rintro e w3 ⟨rfl, hb3⟩
          have H3 := hid (below_on H1.out hb3)
          clear hb3))
      go_ret2
      first
        | exact ⟨rfl, H3.out⟩
        | exact ⟨rfl, H1.out⟩
  · rw [h] at ha
    have PA := hid ha
    have hk : keyV k i s = .tuple #[.string emp, .int .i64 14] := by unfold keyV; rw [if_neg h2]
    rw [hk]
    clear ha h h2 h1 hk
    go_enter Tryz.func160, Tryz.ntmps160
    go_wp2_with (
       go_at_call 166
       refine (PA.out _).mono ?_
       rintro e w1 ⟨rfl, hb1⟩
       have H1 := hid (below_on hB0.out hb1)
       clear hb1)
    go_ret2
    exact ⟨rfl, H1.out⟩

end Go.Proofs.YthcoigbkdbkojaaGreat

namespace Go.Proofs.YthcoigbkdbkojaaGreat
open Go.RowKit

/-- The table of comparisons in the heap. -/
abbrev cmpTab : Obj := .cells #[.int .i64 1, .func (.func 201) #[] #[], .int .i64 2, .func (.func 202) #[] #[], .int .i64 3, .func (.func 203) #[] #[], .int .i64 4, .func (.func 204) #[] #[], .int .i64 5, .func (.func 205) #[] #[], .int .i64 6, .func (.func 206) #[] #[]] 239

set_option maxRecDepth 100000 in
set_option maxHeartbeats 1600000 in
theorem comparisons_any (w : World) : Calls Tryz.prog 184 #[] w fun x w' => x = .returned (.slice (some ⟨w.heap.size, 0, none⟩) 6 6) ∧ w'.heap[w.heap.size]? = some cmpTab ∧ Below w.heap.size w w' := by
  go_enter Tryz.func184, Tryz.ntmps184
  go_wp2
  go_ret
  exact ⟨rfl, heap_alloc_new w _, below1 w _⟩

set_option maxRecDepth 100000 in
set_option maxHeartbeats 800000 in
theorem met1 (c : Int) (w : World) : Calls Tryz.prog 201 #[.int .i64 c] w fun x w' => x = .returned (.bool (c == 0)) ∧ w' = w := by
  go_enter Tryz.func201, Tryz.ntmps201
  go_wp2
  go_ret
  exact ⟨rfl, rfl⟩

set_option maxRecDepth 100000 in
set_option maxHeartbeats 800000 in
theorem met2 (c : Int) (w : World) : Calls Tryz.prog 202 #[.int .i64 c] w fun x w' => x = .returned (.bool (!(c == 0))) ∧ w' = w := by
  go_enter Tryz.func202, Tryz.ntmps202
  go_wp2
  go_ret
  exact ⟨rfl, rfl⟩

set_option maxRecDepth 100000 in
set_option maxHeartbeats 800000 in
theorem met3 (c : Int) (w : World) : Calls Tryz.prog 203 #[.int .i64 c] w fun x w' => x = .returned (.bool (decide (c < 0))) ∧ w' = w := by
  go_enter Tryz.func203, Tryz.ntmps203
  go_wp2
  go_ret
  exact ⟨rfl, rfl⟩

set_option maxRecDepth 100000 in
set_option maxHeartbeats 800000 in
theorem met4 (c : Int) (w : World) : Calls Tryz.prog 204 #[.int .i64 c] w fun x w' => x = .returned (.bool (decide (c ≤ 0))) ∧ w' = w := by
  go_enter Tryz.func204, Tryz.ntmps204
  go_wp2
  go_ret
  exact ⟨rfl, rfl⟩

set_option maxRecDepth 100000 in
set_option maxHeartbeats 800000 in
theorem met5 (c : Int) (w : World) : Calls Tryz.prog 205 #[.int .i64 c] w fun x w' => x = .returned (.bool (decide (0 < c))) ∧ w' = w := by
  go_enter Tryz.func205, Tryz.ntmps205
  go_wp2
  go_ret
  exact ⟨rfl, rfl⟩

set_option maxRecDepth 100000 in
set_option maxHeartbeats 800000 in
theorem met6 (c : Int) (w : World) : Calls Tryz.prog 206 #[.int .i64 c] w fun x w' => x = .returned (.bool (decide (0 ≤ c))) ∧ w' = w := by
  go_enter Tryz.func206, Tryz.ntmps206
  go_wp2
  go_ret
  exact ⟨rfl, rfl⟩

end Go.Proofs.YthcoigbkdbkojaaGreat
