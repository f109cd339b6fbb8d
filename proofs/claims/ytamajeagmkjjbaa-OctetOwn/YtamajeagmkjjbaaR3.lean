import Derived.Test.YtamajeagmkjjbaaR2
import Derived.Test.YtamajeagmkjjbaaSl2
import Derived.ScopeJumps
import Derived.WalkMore
namespace Go.Proofs.Ytamajeagmkjjbaa
open Go.RowKit

/-- A Reader at block p, its bytes in block g. -/
def Rd (w : World) (p : Nat) (g : Option Nat) (bs : List Int) (at' : Nat) (e : Int) : Prop :=
  ∃ v, w.heap[p]? = some (.cells #[v, .int .i64 at', .int .i64 e] 57 (0, 0)) ∧ v.ownBlock = g ∧ Sl w v bs ∧ g ≠ some p ∧ Oct bs ∧ at' ≤ bs.length ∧ bs.length ≤ 1000000000

theorem cell_of_three {w : World} {p : Nat} {a b c : Value} {t : TypeId} (h : w.heap[p]? = some (.cells #[a, b, c] t (0, 0))) : w.cell? ⟨p, 0, none⟩ = some a ∧ w.cell? ⟨p, 1, none⟩ = some b ∧ w.cell? ⟨p, 2, none⟩ = some c := by
  refine ⟨?_, ?_, ?_⟩
  · rw [cell_of_row w p 0 _ t (0, 0) h]; rfl
  · rw [cell_of_row w p 1 _ t (0, 0) h]; rfl
  · rw [cell_of_row w p 2 _ t (0, 0) h]; rfl

/-- A scope whose one label is jumped to at most once. -/
theorem wp_scope_once {P : Program} {a : Act} {w : World} {Q : Exit → Act → World → Prop} {c rest : Code} (l : Nat) (hf : findLabel c l = some rest)
    (first : c.wp P (Exit.jump l (fun a' w' => rest.wp P (Exit.noGoto Q) a' w') Q) a w) : (Code.scope c).wp P Q a w := by
  refine wp_scope_jumps l (fun a' w' => rest.wp P (Exit.noGoto Q) a' w') (fun _ _ => 0) hf first ?_
  intro a' w' h
  refine wp_mono h ?_
  intro e a2 w2 hq
  cases e with
  | goto l' => exact hq.elim
  | normal => exact hq
  | exit id => exact hq
  | ret => exact hq
  | panic ch => exact hq
  | outgrown => exact hq

set_option maxRecDepth 100000 in
set_option maxHeartbeats 800000 in
theorem take_stopped (p : Nat) (f n e : Int) (w : World) (c2 : w.cell? ⟨p, 2, none⟩ = some (.int .i64 e)) (he : (e == 0) = false) :
    Calls Try.prog 53 #[.pointer (some ⟨p, 0, none⟩), .int .i64 f, .int .i64 n] w fun x w' => w' = w ∧ x = .returned (.tuple #[.int .u64 0, .string ⟨#[]⟩]) := by
  have he2 : (e != 0) = true := by simpa using he
  go_enter Try.func53, Try.ntmps53
  go_wp2
  refine wp_scope_once 0 rfl ?_
  go_wp2
  simp only [Exit.jump]
  go_ret2
  exact ⟨rfl, rfl⟩

set_option maxRecDepth 100000 in
set_option maxHeartbeats 800000 in
theorem take_nil (f n : Int) (w : World) :
    Calls Try.prog 53 #[.pointer none, .int .i64 f, .int .i64 n] w fun x w' => w' = w ∧ x = .returned (.tuple #[.int .u64 0, .string ⟨#[]⟩]) := by
  go_enter Try.func53, Try.ntmps53
  go_wp2
  refine wp_scope_once 0 rfl ?_
  go_wp2
  simp only [Exit.jump]
  go_ret2
  exact ⟨rfl, rfl⟩

set_option maxRecDepth 100000 in
set_option maxHeartbeats 800000 in
theorem take_lead_err (p : Nat) (v rv : Value) (at' : Nat) (f n u sz e1 : Int) (w : World) (c0 : w.cell? ⟨p, 0, none⟩ = some v) (c1 : w.cell? ⟨p, 1, none⟩ = some (.int .i64 at')) (c2 : w.cell? ⟨p, 2, none⟩ = some (.int .i64 0))
    (f2 : w.frozen? ⟨p, 2, none⟩ = false) (hsl : ∀ wx : World, (Instr.slice 26 v (some (.int .i64 at')) none none).run Try.prog wx = .ok rv wx)
    (hc : ∀ nq : Nat, Calls Try.prog 60 #[.int .i64 f, rv, .int .i64 n] (w.drewN nq) fun x w' => w' = w.drewN nq ∧ x = .returned (.tuple #[.int .u64 u, .int .i64 sz, .int .i64 e1]))
    (he : e1 ≠ 0) :
    Calls Try.prog 53 #[.pointer (some ⟨p, 0, none⟩), .int .i64 f, .int .i64 n] w fun x w' => (∃ nq, w' = (w.drewN nq).setCell ⟨p, 2, none⟩ (.int .i64 e1)) ∧ x = .returned (.tuple #[.int .u64 0, .string ⟨#[]⟩]) := by
  have he2 : (e1 != 0) = true := by simpa using he
  have HC := hid hc
  clear hc he
  go_enter Try.func53, Try.ntmps53
  go_wp2
  refine wp_scope_once 0 rfl ?_
  go_wp2
  go_quiet (fail)
  have hcw := hid (HC.out nq)
  clear HC
  go_wp2_with (go_at_call 60; refine hcw.out.mono ?_; rintro x w' ⟨hw, rfl⟩; subst hw)
  go_step3
  refine ⟨rfl, ?_⟩
  go_wp2
  rw [Exit.noGoto_ret]
  go_ret2
  exact ⟨⟨nq, rfl⟩, rfl⟩

set_option maxRecDepth 100000 in
set_option maxHeartbeats 800000 in
theorem take_plain (p : Nat) (v rv : Value) (at' : Nat) (f n u sz e1 : Int) (w : World) (c0 : w.cell? ⟨p, 0, none⟩ = some v) (c1 : w.cell? ⟨p, 1, none⟩ = some (.int .i64 at')) (c2 : w.cell? ⟨p, 2, none⟩ = some (.int .i64 0))
    (f1 : w.frozen? ⟨p, 1, none⟩ = false) (hsl : ∀ wx : World, (Instr.slice 26 v (some (.int .i64 at')) none none).run Try.prog wx = .ok rv wx)
    (hc : ∀ nq : Nat, Calls Try.prog 60 #[.int .i64 f, rv, .int .i64 n] (w.drewN nq) fun x w' => w' = w.drewN nq ∧ x = .returned (.tuple #[.int .u64 u, .int .i64 sz, .int .i64 e1]))
    (he : e1 = 0) (hf : f ≠ 3) (hsz0 : 0 ≤ sz) (hsz1 : (at' : Int) + sz ≤ 1000000000) :
    Calls Try.prog 53 #[.pointer (some ⟨p, 0, none⟩), .int .i64 f, .int .i64 n] w fun x w' => (∃ nq, w' = (w.drewN nq).setCell ⟨p, 1, none⟩ (.int .i64 ((at' : Int) + sz))) ∧ x = .returned (.tuple #[.int .u64 u, .string ⟨#[]⟩]) := by
  subst he
  have hf2 : (f == 3) = false := by simpa using hf
  have HC := hid hc
  clear hc hf
  go_enter Try.func53, Try.ntmps53
  go_wp2
  refine wp_scope_once 0 rfl ?_
  go_wp2
  go_quiet (fail)
  have hcw := hid (HC.out nq)
  clear HC
  go_wp2_with (go_at_call 60; refine hcw.out.mono ?_; rintro x w' ⟨hw, rfl⟩; subst hw)
  simp only [Exit.jump]
  go_ret2
  exact ⟨⟨nq, rfl⟩, rfl⟩

set_option maxRecDepth 100000 in
set_option maxHeartbeats 800000 in
theorem take_text_long (p : Nat) (v rv : Value) (at' : Nat) (n u sz : Int) (w : World) (c0 : w.cell? ⟨p, 0, none⟩ = some v) (c1 : w.cell? ⟨p, 1, none⟩ = some (.int .i64 at')) (c2 : w.cell? ⟨p, 2, none⟩ = some (.int .i64 0))
    (f2 : w.frozen? ⟨p, 2, none⟩ = false) (hsl : ∀ wx : World, (Instr.slice 26 v (some (.int .i64 at')) none none).run Try.prog wx = .ok rv wx)
    (hc : ∀ nq : Nat, Calls Try.prog 60 #[.int .i64 3, rv, .int .i64 n] (w.drewN nq) fun x w' => w' = w.drewN nq ∧ x = .returned (.tuple #[.int .u64 u, .int .i64 sz, .int .i64 0]))
    (m : Nat) (_hlen : ∀ wx : World, (Builtin.len_ #[26] 3 #[rv]).run Try.prog wx = .ok (.int .i64 m) wx) (hu0 : 0 ≤ u) (hu1 : u < 9223372036854775808) (hn0 : -9223372036854775808 ≤ n) (hn1 : n < 9223372036854775808) (_hsz0 : 0 ≤ sz) (_hsz1 : sz ≤ m) (_hm : (at' : Int) + m ≤ 1000000000) (hlong : max n 0 < u) :
    Calls Try.prog 53 #[.pointer (some ⟨p, 0, none⟩), .int .i64 3, .int .i64 n] w fun x w' => (∃ nq, w' = (w.drewN nq).setCell ⟨p, 2, none⟩ (.int .i64 4)) ∧ x = .returned (.tuple #[.int .u64 0, .string ⟨#[]⟩]) := by
  have HC := hid hc
  clear hc
  by_cases hn : 0 ≤ n
  · have hx : n < u := by omega
    clear hlong
    go_enter Try.func53, Try.ntmps53
    go_wp2
    refine wp_scope_once 0 rfl ?_
    go_wp2
    go_quiet (fail)
    have hcw := hid (HC.out nq)
    clear HC
    go_wp2_with (go_at_call 60; refine hcw.out.mono ?_; rintro x w' ⟨hw, rfl⟩; subst hw)
    go_step3
    refine ⟨rfl, ?_⟩
    go_wp2
    rw [Exit.noGoto_ret]
    go_ret2
    exact ⟨⟨nq, rfl⟩, rfl⟩
  · have hx : 0 < u := by omega
    have hx2 : n < 0 := by omega
    clear hlong hn
    go_enter Try.func53, Try.ntmps53
    go_wp2
    refine wp_scope_once 0 rfl ?_
    go_wp2
    go_quiet (fail)
    have hcw := hid (HC.out nq)
    clear HC
    go_wp2_with (go_at_call 60; refine hcw.out.mono ?_; rintro x w' ⟨hw, rfl⟩; subst hw)
    go_step3
    refine ⟨rfl, ?_⟩
    go_wp2
    rw [Exit.noGoto_ret]
    go_ret2
    exact ⟨⟨nq, rfl⟩, rfl⟩

set_option maxRecDepth 100000 in
set_option maxHeartbeats 800000 in
theorem take_text_short (p : Nat) (v rv : Value) (at' : Nat) (n u sz : Int) (w : World) (c0 : w.cell? ⟨p, 0, none⟩ = some v) (c1 : w.cell? ⟨p, 1, none⟩ = some (.int .i64 at')) (c2 : w.cell? ⟨p, 2, none⟩ = some (.int .i64 0))
    (f2 : w.frozen? ⟨p, 2, none⟩ = false) (hsl : ∀ wx : World, (Instr.slice 26 v (some (.int .i64 at')) none none).run Try.prog wx = .ok rv wx)
    (hc : ∀ nq : Nat, Calls Try.prog 60 #[.int .i64 3, rv, .int .i64 n] (w.drewN nq) fun x w' => w' = w.drewN nq ∧ x = .returned (.tuple #[.int .u64 u, .int .i64 sz, .int .i64 0]))
    (m : Nat) (hlen : ∀ wx : World, (Builtin.len_ #[26] 3 #[rv]).run Try.prog wx = .ok (.int .i64 m) wx) (_hu0 : 0 ≤ u) (_hu1 : u < 9223372036854775808) (hn0 : -9223372036854775808 ≤ n) (hn1 : n < 9223372036854775808) (hsz0 : 0 ≤ sz) (hsz1 : sz ≤ m) (hm : (at' : Int) + m ≤ 1000000000) (hlong : u ≤ max n 0) (hsh : (m : Int) - sz < u) :
    Calls Try.prog 53 #[.pointer (some ⟨p, 0, none⟩), .int .i64 3, .int .i64 n] w fun x w' => (∃ nq, w' = (w.drewN nq).setCell ⟨p, 2, none⟩ (.int .i64 2)) ∧ x = .returned (.tuple #[.int .u64 0, .string ⟨#[]⟩]) := by
  have HC := hid hc
  clear hc
  by_cases hn : 0 ≤ n
  · have hx : u ≤ n := by omega
    clear hlong
    go_enter Try.func53, Try.ntmps53
    go_wp2
    refine wp_scope_once 0 rfl ?_
    go_wp2
    go_quiet (fail)
    have hcw := hid (HC.out nq)
    clear HC
    go_wp2_with (go_at_call 60; refine hcw.out.mono ?_; rintro x w' ⟨hw, rfl⟩; subst hw)
    go_step3
    refine ⟨rfl, ?_⟩
    go_wp2
    rw [Exit.noGoto_ret]
    go_ret2
    exact ⟨⟨nq, rfl⟩, rfl⟩
  · exfalso; omega

set_option maxRecDepth 100000 in
set_option maxHeartbeats 800000 in
theorem take_text_ok (p : Nat) (v rv : Value) (at' : Nat) (n u sz : Int) (w : World) (c0 : w.cell? ⟨p, 0, none⟩ = some v) (c1 : w.cell? ⟨p, 1, none⟩ = some (.int .i64 at')) (c2 : w.cell? ⟨p, 2, none⟩ = some (.int .i64 0))
    (f1 : w.frozen? ⟨p, 1, none⟩ = false) (hsl : ∀ wx : World, (Instr.slice 26 v (some (.int .i64 at')) none none).run Try.prog wx = .ok rv wx)
    (hc : ∀ nq : Nat, Calls Try.prog 60 #[.int .i64 3, rv, .int .i64 n] (w.drewN nq) fun x w' => w' = w.drewN nq ∧ x = .returned (.tuple #[.int .u64 u, .int .i64 sz, .int .i64 0]))
    (m : Nat) (hlen : ∀ wx : World, (Builtin.len_ #[26] 3 #[rv]).run Try.prog wx = .ok (.int .i64 m) wx) (hu0 : 0 ≤ u) (hu1 : u < 9223372036854775808) (hn0 : -9223372036854775808 ≤ n) (hn1 : n < 9223372036854775808) (hsz0 : 0 ≤ sz) (hsz1 : sz ≤ m) (hm : (at' : Int) + m ≤ 1000000000) (hlong : u ≤ max n 0) (hsh : u ≤ (m : Int) - sz) (rv2 : Value) (s : ByteArray) (hsl2 : ∀ wx : World, (Instr.slice 26 rv (some (.int .i64 sz)) (some (.int .i64 (sz + u))) none).run Try.prog wx = .ok rv2 wx) (hstr : ∀ nq : Nat, (convert 26 9 rv2).run Try.prog (w.drewN nq) = .ok (.string s) (w.drewN nq)) :
    Calls Try.prog 53 #[.pointer (some ⟨p, 0, none⟩), .int .i64 3, .int .i64 n] w fun x w' => (∃ nq, w' = (w.drewN nq).setCell ⟨p, 1, none⟩ (.int .i64 ((at' : Int) + (sz + u)))) ∧ x = .returned (.tuple #[.int .u64 u, .string s]) := by
  have HC := hid hc
  clear hc
  by_cases hn : 0 ≤ n
  · have hx : u ≤ n := by omega
    clear hlong
    go_enter Try.func53, Try.ntmps53
    go_wp2
    refine wp_scope_once 0 rfl ?_
    go_wp2
    go_quiet (fail)
    have hcw := hid (HC.out nq)
    have hst := hstr nq
    clear HC
    go_wp2_with (go_at_call 60; refine hcw.out.mono ?_; rintro x w' ⟨hw, rfl⟩; subst hw)
    simp only [Exit.jump]
    go_ret2
    exact ⟨⟨nq, rfl⟩, rfl⟩
  · have hx2 : n < 0 := by omega
    obtain rfl : u = 0 := by omega
    simp only [Int.add_zero] at hsl2 ⊢
    clear hlong hn hu0 hu1
    go_enter Try.func53, Try.ntmps53
    go_wp2
    refine wp_scope_once 0 rfl ?_
    go_wp2
    go_quiet (fail)
    have hcw := hid (HC.out nq)
    have hst := hstr nq
    clear HC
    go_wp2_with (go_at_call 60; refine hcw.out.mono ?_; rintro x w' ⟨hw, rfl⟩; subst hw)
    simp only [Exit.jump]
    go_ret2
    exact ⟨⟨nq, rfl⟩, rfl⟩

end Go.Proofs.Ytamajeagmkjjbaa
