import Derived.WalkKit
namespace Go.Proofs.Ytamajeagmkjjbaa
open Go

theorem and127_u64 (u : Int) (h0 : 0 ≤ u) (h1 : u < 18446744073709551616) : bits .and .u64 u 127 = u % 128 := by
  rw [u64_and u 127 h0 h1 (by omega) (by omega)]
  rw [show ((127 : Int).toNat) = 127 from rfl, nat_mask7]
  omega

theorem and1_u64 (u : Int) (h0 : 0 ≤ u) (h1 : u < 18446744073709551616) : bits .and .u64 u 1 = u % 2 := by
  rw [u64_and u 1 h0 h1 (by omega) (by omega)]
  rw [show ((1 : Int).toNat) = 1 from rfl, nat_mask1]
  omega

theorem and127_u8 (u : Int) (h0 : 0 ≤ u) (h1 : u < 256) : bits .and .u8 u 127 = u % 128 := by
  rw [u8_and u 127 h0 h1 (by omega) (by omega)]
  rw [show ((127 : Int).toNat) = 127 from rfl, nat_mask7]
  omega

theorem and128_u8 (u : Int) (h0 : 0 ≤ u) (h1 : u < 256) : bits .and .u8 u 128 = u / 128 * 128 := by
  rw [u8_and u 128 h0 h1 (by omega) (by omega)]
  rw [show ((128 : Int).toNat) = 2 ^ 7 from rfl, nat_bit]
  omega

theorem or128_u8 (u : Int) (h0 : 0 ≤ u) (h1 : u < 128) : bits .or .u8 u 128 = u + 128 := by
  rw [u8_or u 128 h0 (by omega) (by omega) (by omega)]
  rw [show ((128 : Int).toNat) = 128 from rfl, Nat.or_comm, nat_join 7 128 u.toNat (by decide) (by omega)]
  omega

theorem xorMax_u64 (x : Int) (h0 : 0 ≤ x) (h1 : x < 18446744073709551616) : bits .xor .u64 IntKind.u64.max x = 18446744073709551615 - x := by
  have e : IntKind.u64.max = 18446744073709551615 := by decide
  rw [e, u64_xor _ x (by omega) (by omega) h0 h1]
  obtain ⟨n, rfl⟩ := Int.eq_ofNat_of_zero_le h0
  have hn : n < 2 ^ 64 := by omega
  have hx : (18446744073709551615 : Nat) ^^^ n = 18446744073709551615 - n := by
    have h := BitVec.toNat_not (x := BitVec.ofNat 64 n)
    rw [← BitVec.allOnes_xor] at h
    rw [BitVec.toNat_xor] at h
    simp only [BitVec.toNat_allOnes, BitVec.toNat_ofNat] at h
    rw [Nat.mod_eq_of_lt hn] at h
    omega
  rw [show ((18446744073709551615 : Int).toNat) = 18446744073709551615 from rfl, Int.toNat_natCast, hx]
  omega

/-- ^v of an int64. -/
theorem xorMax_i64 (x : Int) (h0 : -9223372036854775808 ≤ x) (h1 : x < 9223372036854775808) : bits .xor .i64 (-1) x = -1 - x := by
  have key : ∀ b : BitVec 64, (BitVec.allOnes 64 ^^^ b) = ~~~b := fun b => BitVec.allOnes_xor
  have e1 : BitVec.ofInt 64 (-1) = BitVec.allOnes 64 := by decide
  have hb : (bits .xor .i64 (-1) x) = IntKind.i64.wrap ((BitVec.ofInt 64 (-1) ^^^ BitVec.ofInt 64 x).toNat : Int) := rfl
  rw [hb, e1, key, BitVec.toNat_not, BitVec.toNat_ofInt, IntKind.wrap_i64]
  have hm : (2 ^ 64 : Int) = 18446744073709551616 := by decide
  omega

theorem or_u64 (x y : Int) (i : Nat) (hx0 : 0 ≤ x) (hx1 : x < 2 ^ i) (hy0 : 0 ≤ y) (hy : y % 2 ^ i = 0) (hx2 : x < 18446744073709551616) (hy1 : y < 18446744073709551616) : bits .or .u64 x y = x + y := by
  rw [u64_or x y hx0 hx2 hy0 hy1]
  obtain ⟨a, rfl⟩ := Int.eq_ofNat_of_zero_le hx0
  obtain ⟨b, rfl⟩ := Int.eq_ofNat_of_zero_le hy0
  rw [Int.toNat_natCast, Int.toNat_natCast, Nat.or_comm, nat_join i b a (by exact_mod_cast hy) (by exact_mod_cast hx1)]
  omega

end Go.Proofs.Ytamajeagmkjjbaa
