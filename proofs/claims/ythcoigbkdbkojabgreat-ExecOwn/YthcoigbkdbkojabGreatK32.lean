import Derived.Shelf.Strconv.Itoa1
import Derived.Lib.ItoaNum
import Derived.Laws.AppendOwnNone
import Derived.Test.YthcoigbkdbkojabGreatK21
import Derived.Lib.ItoaWalk
import Derived.RegionTactic
import Derived.BigGuard
import Derived.CellFam
import Derived.Shelf.RegionOpenPlain
set_option maxRecDepth 100000
/-
  DERIVED: THE SHELF's CONTRACTS AT THIS DUMP, IN PLAIN WORDS (tools/lay-plain.mjs out of 'YthcoigbkdbkojabGreatLbRaw.lean', which tools/lay-shelf.mjs wrote): THE SAME DECLARATIONS UNDER THE SAME NAMES: 'import', 'namespace', 'open', 'def', 'theorem' AND NOTHING ELSE: no command of the shelf's: FOR A HAND-IN. Each laying: the table of numbers ('.._ren') and one theorem, a field a fact of the dump's own or the kernel's comparison; each contract: ONE APPLICATION.
-/
namespace Go.Proofs
open Go.Shelf
def Tryz.lays129_ren : Go.Shelf.Ren := ⟨fun | 129 => 161 | n => n, fun | 53 => 182 | 3 => 3 | 4 => 4 | 46 => 197 | 5 => 5 | 9 => 9 | n => n, fun | n => n⟩
theorem Tryz.lays129 : Go.Proofs.Lays.n129 Tryz.prog Tryz.lays129_ren := {
  mixed := by kernel_rfl
  f129 := Tryz.func161.trans (congrArg some (by kernel_rfl))
  t3 := Tryz.underlying3
  a3 := Tryz.isAgg3
  z3 := Tryz.sizeOf3
  v3 := Tryz.zeroValue3
  t4 := Tryz.underlying4
  a4 := Tryz.isAgg4
  z4 := Tryz.sizeOf4
  v4 := Tryz.zeroValue4
  t5 := Tryz.underlying5
  a5 := Tryz.isAgg5
  z5 := Tryz.sizeOf5
  v5 := Tryz.zeroValue5
  t9 := Tryz.underlying9
  a9 := Tryz.isAgg9
  z9 := Tryz.sizeOf9
  v9 := Tryz.zeroValue9
  t46 := Tryz.underlying197
  a46 := Tryz.isAgg197
  z46 := Tryz.sizeOf197
  v46 := Tryz.zeroValue197
  t53 := Tryz.underlying182
  a53 := Tryz.isAgg182
  z53 := Tryz.sizeOf182
  v53 := Tryz.zeroValue182 }
def Tryz.lays317_ren : Go.Shelf.Ren := ⟨fun | 317 => 213 | n => n, fun | 3 => 3 | 46 => 197 | n => n, fun | n => n⟩
theorem Tryz.lays317 : Go.Proofs.Lays.n317 Tryz.prog Tryz.lays317_ren := {
  mixed := by kernel_rfl
  f317 := Tryz.func213.trans (congrArg some (by kernel_rfl))
  t3 := Tryz.underlying3
  a3 := Tryz.isAgg3
  z3 := Tryz.sizeOf3
  v3 := Tryz.zeroValue3
  t46 := Tryz.underlying197
  a46 := Tryz.isAgg197
  z46 := Tryz.sizeOf197
  v46 := Tryz.zeroValue197 }
end Go.Proofs
namespace Go.Proofs.YthcoigbkdbkojabGreat
open Go.RowKit
def Tab (T : Nat → Int) (w : World) : Prop := ∃ (cs : Array Value) (t : TypeId), t ≠ 5 ∧ w.heap[1]? = some (.cells cs t (0, 0)) ∧ ∀ n, n < 20 → cs[n]? = some (.int .u64 (T n))
theorem Tab.cell {T : Nat → Int} {w : World} (h : Tab T w) (n : Nat) (hn : n < 20) : w.cell? ⟨1, n, none⟩ = some (.int .u64 (T n)) := by
  obtain ⟨cs, t, _, h1, h2⟩ := h
  simp [World.cell?, h1, h2 n hn]
theorem Tab.lt {T : Nat → Int} {w : World} (h : Tab T w) : 1 < w.heap.size := by
  obtain ⟨cs, t, _, h1, _⟩ := h
  exact (Array.getElem?_eq_some_iff.1 h1).1
theorem Tab.of_block {T : Nat → Int} {w w' : World} (h : Tab T w) (e : w'.heap[1]? = w.heap[1]?) : Tab T w' := by
  obtain ⟨cs, t, h0, h1, h2⟩ := h
  exact ⟨cs, t, h0, e.trans h1, h2⟩
theorem Tab.below {T : Nat → Int} {w w' : World} (h : Tab T w) (hb : Below w.heap.size w w') : Tab T w' := h.of_block (hb.block 1 h.lt)
theorem Tab.grown {T : Nat → Int} {w w' : World} {B : Nat} {v : Value} {n : Nat} {xs : List Value} (h : Tab T w) (ho : w.ownsRow B 5 1 v n xs) (hg : w.grownBy w' v.ownBlock) : Tab T w' := by
  refine h.of_block (hg.block 1 h.lt ?_)
  intro e
  obtain ⟨cs, t, h0, h1, _⟩ := h
  rcases ho.2 with ⟨rfl, _⟩ | ⟨g, cap, cur, rfl, _, hb, _⟩
  · simp [Value.ownBlock] at e
  · simp [Value.ownBlock] at e
    subst e
    rw [h1] at hb
    injection hb with hb
    injection hb with _ hb
    exact h0 hb
def ndT (T : Nat → Int) (u : Nat) : Nat := Lib.l10 (Lib.bitLen u) + if T (Lib.l10 (Lib.bitLen u)) ≤ (u : Int) then 1 else 0
theorem ndT_bd (T : Nat → Int) (u : Nat) (h1 : 100 ≤ u) (h2 : u < 18446744073709551616) : 2 ≤ ndT T u ∧ ndT T u ≤ 20 ∧ u < 10 ^ (ndT T u + 1) := by
  obtain ⟨hnd, h19⟩ := Lib.numDigits_eq u (by omega) h2
  have hlt := Lib.lt_pow_nDigits u
  have h3 : 3 ≤ Lib.nDigits u := by
    rcases Nat.lt_or_ge (Lib.nDigits u) 3 with h | h
    · have : (10 : Nat) ^ Lib.nDigits u ≤ 10 ^ 2 := Nat.pow_le_pow_right (by omega) (by omega)
      omega
    · exact h
  have hq : Lib.nDigits u ≤ Lib.l10 (Lib.bitLen u) + 1 := by rw [← hnd]; split <;> omega
  have hq2 : Lib.l10 (Lib.bitLen u) ≤ ndT T u := by unfold ndT; omega
  refine ⟨by omega, by unfold ndT; split <;> omega, ?_⟩
  exact Nat.lt_of_lt_of_le hlt (Nat.pow_le_pow_right (by omega) (by omega))
set_option maxHeartbeats 800000 in
theorem bool2_any (b : Bool) (w : World) : Calls Tryz.prog 214 #[.bool b] w fun e w' => e = .returned (.int .i64 (if b = true then 1 else 0)) ∧ w' = w := by
  cases b
  · go_enter Tryz.func214, Tryz.ntmps214
    go_wp2
    go_ret
    exact ⟨rfl, rfl⟩
  · go_enter Tryz.func214, Tryz.ntmps214
    go_wp2
    go_ret
    exact ⟨rfl, rfl⟩
set_option maxHeartbeats 1600000 in
theorem numDigits_any (T : Nat → Int) (u : Nat) (h1 : 100 ≤ u) (h2 : u < 18446744073709551616) (w : World) (ht : Tab T w) :
    Calls Tryz.prog 210 #[.int .u64 u] w fun e w' => e = .returned (.int .i64 (ndT T u)) ∧ w' = w := by
  obtain ⟨_, h19⟩ := Lib.numDigits_eq u (by omega) h2
  have hL : Lib.bitLen u ≤ 64 := Lib.bitLen_le u 64 (Nat.le_refl _) h2
  obtain ⟨q, hq⟩ : ∃ q, q = Lib.l10 (Lib.bitLen u) := ⟨_, rfl⟩
  obtain ⟨L, hLq⟩ : ∃ L, L = Lib.bitLen u := ⟨_, rfl⟩
  have hnd : (ndT T u : Int) = q + (if decide (T q ≤ (u : Int)) = true then 1 else 0) := by
    unfold ndT
    rw [← hq]
    by_cases h : T q ≤ (u : Int) <;> simp [h]
  have c1 : ∀ w, Calls Tryz.prog 161 #[.int .u64 u] w fun e w' => e = .returned (.int .i64 L) ∧ w' = w := by
    intro w
    have := Any.bits_Len64 Tryz.lays129 (u : Int) w (by omega) (by omega)
    rw [show ((u : Int)).toNat = u by omega, ← hLq] at this
    exact this
  have c2 : ∀ w, Calls Tryz.prog 213 #[.int .i64 L] w fun e w' => e = .returned (.int .i64 q) ∧ w' = w := by
    intro w
    have := Any.internal_strconv_log10Pow2 Tryz.lays317 L (by omega) w
    rw [hLq, ← hq] at this
    rw [hLq]
    exact this
  rw [← hq] at h19
  have hc := ht.cell q (by omega)
  have h20 : q < 20 := by omega
  have hb2 := bool2_any (decide (T q ≤ (u : Int)))
  obtain ⟨b, hb⟩ : ∃ b, b = decide (T q ≤ (u : Int)) := ⟨_, rfl⟩
  obtain ⟨t, htq⟩ : ∃ t, t = T q := ⟨_, rfl⟩
  rw [hnd]
  rw [← hb] at hb2 ⊢
  rw [← htq] at hc hb
  have C1 := hid c1
  have C2 := hid c2
  have CB := hid hb2
  have HB := hid hb
  clear c1 c2 hb2 hb htq hnd hq hLq ht hL
  cases b
  all_goals
    go_enter Tryz.func210, Tryz.ntmps210
    go_wp2_with (first
      | (go_at_call 161; refine (C1.out _).mono ?_; rintro e w' ⟨rfl, e1⟩; rw [e1]; clear e1 w')
      | (go_at_call 213; refine (C2.out _).mono ?_; rintro e w' ⟨rfl, e1⟩; rw [e1]; clear e1 w')
      | (go_at_call 214; (rw [← HB.out]); refine (CB.out _).mono ?_; rintro e w' ⟨rfl, e1⟩; rw [e1]; clear e1 w'))
    go_ret
    exact ⟨by simp, rfl⟩
def Sn (w : World) (v : Value) (bs : List Int) : Prop := Sl w v bs ∧ (v = .slice none 0 0 ∨ ∃ a n c, v = .slice (some a) n c)
theorem append_sn (w : World) (ty : TypeId) (B : Nat) (v : Value) (n : Nat) (xs : List Int) (hown : w.ownsRow B 5 1 v n (B8 xs)) (sv : Value) (ys : List Int) (hsn : Sn w sv ys) (hl : n + ys.length ≤ 100000000000) (hbase : B ≤ w.heap.size) :
    ∃ v' w', (Builtin.append_ #[53, 53] ty #[v, sv]).run Tryz.prog w = .ok v' w' ∧ w'.ownsRow B 5 1 v' (n + ys.length) (B8 (xs ++ ys)) ∧ w.grownBy w' v.ownBlock ∧ (v'.ownBlock = v.ownBlock ∨ v'.ownBlock = some w.heap.size) := by
  obtain ⟨i0, hi, hz0, hz1, hz2⟩ := info_parts Tryz.info5
  obtain ⟨⟨ao, cap, rfl, hc, hx⟩, hsh⟩ := hsn
  rcases hsh with hsh | ⟨a, m, c, hsh⟩
  · injection hsh with h1 h2 h3
    have hy : ys = [] := List.eq_nil_of_length_eq_zero h2
    subst hy
    subst h1 h3
    refine ⟨v, w, run_append_owned_none (P := Tryz.prog) (w := w) B 53 ty 5 i0 1 Tryz.underlying53 hi v n (B8 xs) hown, by simpa using hown, ⟨rfl, rfl, rfl, Nat.le_refl _, fun _ _ _ => rfl⟩, .inl rfl⟩
  · injection hsh with h1 h2 h3
    subst h1 h2 h3
    obtain ⟨v', w', hr, q1, q2, _, q4⟩ := run_append_own_at (P := Tryz.prog) w B 53 ty 5 i0 (.int .u8 0) 1 1 Tryz.underlying53 hi hz0 hz1 hz2 rfl (by omega) v n (B8 xs) hown a ys.length cap (B8 ys) (by simp) (by
      intro j u hu
      rw [List.getElem?_map, Option.map_eq_some_iff] at hu
      obtain ⟨y, hy, rfl⟩ := hu
      obtain ⟨b, off, e, hj⟩ := hx (by intro e; subst e; simp at hy)
      injection e with e
      subst e
      rw [add_lit]
      exact hj j y hy) (by intro u hu; obtain ⟨_, _, rfl⟩ := List.mem_map.1 hu; rfl) (by unfold maxLen; omega) (by omega) hbase
    exact ⟨v', w', hr, by simpa using q1, q2, q4⟩
theorem wpList_append_sn (w : World) {ops : Array Oper} {rest : List Oper} {o : Oper} {a : Act} {Q : Exit → Act → World → Prop} (hgd : o.guard = none) (s x : Operand)
    (ho : o.op = .call { callee := .builtin .append, args := #[s, x], argTypes := #[53, 53] }) (B : Nat) (v : Value) (n : Nat) (xs : List Int) (hs : a.eval s = v) (hown : w.ownsRow B 5 1 v n (B8 xs))
    (sv : Value) (ys : List Int) (hx : a.eval x = sv) (hsn : Sn w sv ys) (hl : n + ys.length ≤ 100000000000) (hbase : B ≤ w.heap.size)
    (h : ∀ ao c w', w'.ownsRow B 5 1 (.slice ao (n + ys.length) c) (n + ys.length) (B8 (xs ++ ys)) → w.grownBy w' v.ownBlock → wpList Tryz.prog ops Q rest (a.put o.dst (.slice ao (n + ys.length) c)) w') : wpList Tryz.prog ops Q (o :: rest) a w := by
  refine wpList_plain hgd fun K hK => ?_
  obtain ⟨v', w', hr, h2, h3, _⟩ := append_sn w o.type B v n xs hown sv ys hsn hl hbase
  obtain ⟨ao, c, rfl⟩ : ∃ ao c, v' = .slice ao (n + ys.length) c := by
    rcases h2.2 with ⟨e1, e2⟩ | ⟨g, cap, cur, e1, _⟩
    · exact ⟨none, 0, by rw [e1, e2]⟩
    · exact ⟨_, _, e1⟩
  unfold Oper.wp execOp
  simp only [ho, resolve, invoke, builtin, Sem.run_bind, Sem.run_pure, Result.andThen_ok, List.map_toArray, List.map_cons, List.map_nil, hs, hx, hr]
  exact hK _ _ (h ao c w' h2 h3)
def Fmt (nd u : Nat) (ds : List Int) : Prop := ∀ (w : World) (g cp : Nat) (t : TypeId) (r : List Int), w.heap[g]? = some (.cells (B8 (List.replicate nd 0 ++ r)).toArray t (0, 0)) →
      Calls Tryz.prog 211 #[.slice (some ⟨g, 0, none⟩) nd cp, .int .u64 u] w fun e w' => e = .returned (.tuple #[]) ∧ w'.heap[g]? = some (.cells (B8 (ds ++ r)).toArray t (0, 0)) ∧ Kept (fun k => k = g) w w'
theorem below_kept {B g : Nat} {a b c : World} (h : Below B a b) (hk : Kept (fun k => k = g) b c) (hB : B ≤ g) (hb : B ≤ b.heap.size) : Below B a c :=
  ⟨hk.os.trans h.os, hk.tape.trans h.tape, hk.output.trans h.output, Nat.le_trans h.size hk.size, fun k hkb => (hk.block k (by omega) (by omega)).trans (h.block k hkb)⟩
theorem sn_block {w : World} {g c : Nat} {t : TypeId} {ds r : List Int} (h : w.heap[g]? = some (.cells (B8 (ds ++ r)).toArray t (0, 0))) (hc : ds.length ≤ c) : Sn w (.slice (some ⟨g, 0, none⟩) ds.length c) ds := by
  refine ⟨⟨some ⟨g, 0, none⟩, c, rfl, hc, fun _ => ⟨g, 0, rfl, ?_⟩⟩, .inr ⟨_, _, _, rfl⟩⟩
  intro j y hy
  rw [cell_of_row w g _ _ _ _ h]
  have hj := (List.getElem?_eq_some_iff.1 hy).1
  have hy2 : ds[j] = y := (List.getElem?_eq_some_iff.1 hy).2
  simp [hj, hy2, List.getElem?_append_left]
abbrev zer : Obj := .cells (B8 (List.replicate 24 0)).toArray 258
set_option maxHeartbeats 1600000 in
theorem appendUint_big (T : Nat → Int) (u : Nat) (h1 : 100 ≤ u) (h2 : u < 18446744073709551616) (ds : List Int) (hd : ds.length = ndT T u) (hF : Fmt (ndT T u) u ds) (B : Nat) (v : Value) (xs : List Int) (w : World) (ht : Tab T w) (ho : w.ownsRow B 5 1 v xs.length (B8 xs)) (hB : B ≤ w.heap.size) (hl : xs.length ≤ 100000000) :
    Calls Tryz.prog 208 #[v, .int .u64 u, .int .i64 10] w (LayPost B xs ds w) := by
  have g1 : (100 : Int) ≤ (u : Int) := by omega
  have hbd := ndT_bd T u h1 h2
  have hN := fun w h => numDigits_any T u h1 h2 w h
  obtain ⟨nd, hnd⟩ : ∃ nd, nd = ndT T u := ⟨_, rfl⟩
  rw [← hnd] at hbd hd hF
  have hN : ∀ w, Tab T w → Calls Tryz.prog 210 #[.int .u64 u] w fun e w' => e = .returned (.int .i64 nd) ∧ w' = w := by rw [hnd]; exact hN
  have n2 : 2 ≤ nd := hbd.1
  have n20 : nd ≤ 20 := hbd.2.1
  have HT := hid ht
  have HO := hid ho
  have HN := hid hN
  have HF := hid hF
  have HD := hid hd
  clear ht ho h1 h2 hbd hN hF hnd hd
  have hz : (w.alloc zer).heap[w.heap.size]? = some (.cells (B8 (List.replicate nd 0 ++ List.replicate (24 - nd) 0)).toArray 258 (0, 0)) := by
    rw [List.replicate_append_replicate, show nd + (24 - nd) = 24 by omega]
    exact heap_alloc_new w _
  have HZ := hid hz
  clear hz
  unfold LayPost
  have hsl : ∀ W, (Instr.sliceAt 258 (.pointer (some ⟨w.heap.size, 0, none⟩)) none (some (.int .i64 (nd : Int))) none).run Tryz.prog W = .ok (.slice (some ⟨w.heap.size, 0, none⟩) nd 24) W := fun W => by
    have hal : Tryz.prog.arrayLen 258 = 24 := by simp [Program.arrayLen, Tryz.underlying258]
    rw [run_sliceAt_array_h W 258 ⟨w.heap.size, 0, none⟩ (by simp [Program.arrayLen, Program.elem, Tryz.underlying258]) .i64 (nd : Int) (by omega) (by rw [hal]; omega)]
    go_simp
  go_enter Tryz.func208, Tryz.ntmps208
  go_wp2_with (first
    | (go_at_call 210
       refine (HN.out _ (HT.out.below (below1 w _))).mono ?_
       rintro e w' ⟨rfl, e1⟩
       rw [e1]
       clear e1 w')
    | (go_at_call 211; go_loud (
       refine (HF.out (w.alloc zer) w.heap.size 24 258 _ HZ.out).mono ?_
       rintro e w1 ⟨rfl, hr, hk⟩
       have H1 := hid (And.intro (sn_block (c := 24) hr (by rw [HD.out]; omega)) (And.intro (ownsRow_kept (HO.out.alloc zer) hk (fun k hv => by have hlt := HO.out.lt k hv; intro e; subst e; omega)) (below_kept ((Below.refl B w).alloc hB zer) hk hB (by simp; omega))))
       clear hr hk))
    | (at_builtin; go_loud (
       refine wpList_append_sn _ rfl _ _ rfl B _ xs.length xs rfl H1.out.2.1 _ ds (by rw [HD.out]; rfl) H1.out.1 (by rw [HD.out]; omega) (Nat.le_trans hB H1.out.2.2.size) ?_
       intro ao c w2 hown hgrow
       have H2 := hid (And.intro hown (below_grown H1.out.2.2 hB H1.out.2.1 hgrow))
       clear hown hgrow)))
  go_ret
  exact ⟨_, rfl, by simpa using H2.out.1, H2.out.2⟩
end Go.Proofs.YthcoigbkdbkojabGreat
namespace Go.Proofs
open Go.Shelf
def Tryz.lays283_ren : Go.Shelf.Ren := ⟨fun | 283 => 209 | n => n, fun | 3 => 3 | 4 => 4 | 9 => 9 | n => n, fun | n => n⟩
theorem Tryz.lays283 : Go.Proofs.Lays.n283 Tryz.prog Tryz.lays283_ren := {
  mixed := by kernel_rfl
  f283 := Tryz.func209.trans (congrArg some (by kernel_rfl))
  t3 := Tryz.underlying3
  a3 := Tryz.isAgg3
  z3 := Tryz.sizeOf3
  v3 := Tryz.zeroValue3
  t4 := Tryz.underlying4
  a4 := Tryz.isAgg4
  z4 := Tryz.sizeOf4
  v4 := Tryz.zeroValue4
  t9 := Tryz.underlying9
  a9 := Tryz.isAgg9
  z9 := Tryz.sizeOf9
  v9 := Tryz.zeroValue9 }
end Go.Proofs
namespace Go.Proofs.YthcoigbkdbkojabGreat
open Go.RowKit Go.Lib
theorem small_any (u : Nat) (h : u < 100) (w : World) : Calls Tryz.prog 209 #[.int .i64 u] w fun e w' => e = .returned (.string ⟨(Lib.decDigits u).toArray⟩) ∧ w' = w := Any.internal_strconv_small Tryz.lays283 u h w
set_option maxHeartbeats 800000 in
theorem appendUint_small (u : Nat) (hu : u < 100) (s : ByteArray) (hs : s = ⟨(Lib.decDigits u).toArray⟩) (hsz : s.size ≤ 20) (B : Nat) (v : Value) (xs : List Int) (w : World) (ho : w.ownsRow B 5 1 v xs.length (B8 xs)) (hB : B ≤ w.heap.size) (hl : xs.length ≤ 100000000) :
    Calls Tryz.prog 208 #[v, .int .u64 u, .int .i64 10] w (LayPost B xs (strBs s) w) := by
  obtain ⟨i0, hi, hz0, hz1, hz2⟩ := info_parts Tryz.info5
  have HO := hid ho
  have hS := small_any u hu
  rw [← hs] at hS
  have HS := hid hS
  have iu : (u : Int) < 100 := by omega
  clear ho hS hs hu
  unfold LayPost
  go_enter Tryz.func208, Tryz.ntmps208
  go_wp2_with (first
    | (go_at_call 209
       refine (HS.out _).mono ?_
       rintro e w1 ⟨rfl, e1⟩
       rw [e1]
       clear e1 w1)
    | (at_builtin; go_loud (
       refine wpList_append_own_string _ rfl _ _ 53 9 rfl B 5 i0 Tryz.underlying53 Tryz.underlying9 hi hz0 hz1 hz2 _ xs.length (B8 xs) rfl HO.out s rfl (by unfold maxLen; omega) (by omega) hB ?_
       intro v' w1 hown hgrow _
       have H1 := hid (lay_post hB HO.out hown hgrow)
       clear hown hgrow)))
  go_ret
  exact ⟨_, rfl, H1.out.1, H1.out.2⟩
def ULay (T : Nat → Int) (u : Nat) (ds : List Int) : Prop := ∀ (B : Nat) (v : Value) (xs : List Int) (w : World), Tab T w → w.ownsRow B 5 1 v xs.length (B8 xs) → B ≤ w.heap.size → xs.length ≤ 100000000 → Calls Tryz.prog 208 #[v, .int .u64 u, .int .i64 10] w (LayPost B xs ds w)
set_option maxHeartbeats 800000 in
theorem appendInt_pos (T : Nat → Int) (u : Nat) (hu : u ≤ 9223372036854775807) (ds : List Int) (hU : ULay T u ds) (B : Nat) (v : Value) (xs : List Int) (w : World) (ht : Tab T w) (ho : w.ownsRow B 5 1 v xs.length (B8 xs)) (hB : B ≤ w.heap.size) (hl : xs.length ≤ 10000000) :
    Calls Tryz.prog 207 #[v, .int .i64 u, .int .i64 10] w (LayPost B xs ds w) := by
  have HA := hid (hU B v xs w ht ho hB (by omega))
  have iu : (u : Int) ≤ 9223372036854775807 := by omega
  have i0 : (0 : Int) ≤ (u : Int) := by omega
  clear ho ht hU
  unfold LayPost at *
  go_enter Tryz.func207, Tryz.ntmps207
  go_wp2_with (go_at_call 208; go_loud (refine HA.out.mono ?_; rintro e w1 ⟨v', rfl, h⟩))
  go_ret
  exact ⟨_, rfl, h⟩
set_option maxHeartbeats 800000 in
theorem appendInt_neg (T : Nat → Int) (u : Nat) (h1 : 1 ≤ u) (hu : u ≤ 9223372036854775808) (ds : List Int) (hU : ULay T u ds) (B : Nat) (v : Value) (xs : List Int) (w : World) (ht : Tab T w) (ho : w.ownsRow B 5 1 v xs.length (B8 xs)) (hB : B ≤ w.heap.size) (hl : xs.length ≤ 10000000) :
    Calls Tryz.prog 207 #[v, .int .i64 (-(u : Int)), .int .i64 10] w (LayPost B xs (45 :: ds) w) := by
  obtain ⟨i0, hi, hz0, hz1, hz2⟩ := info_parts Tryz.info5
  obtain ⟨i, hI⟩ : ∃ i : Int, i = -(u : Int) := ⟨_, rfl⟩
  have i1 : i < 0 := by omega
  have i2 : -9223372036854775808 ≤ i := by omega
  have HI := hid hI
  rw [← hI]
  have HO := hid ho
  have HT := hid ht
  have HU := hid hU
  have w1 : IntKind.u64.wrap i = i + 18446744073709551616 := by rw [IntKind.wrap_u64]; omega
  have w2 : IntKind.u64.wrap (-(i + 18446744073709551616)) = u := by rw [IntKind.wrap_u64]; omega
  have w3 : IntKind.u64.wrap (-IntKind.u64.wrap i) = u := by rw [w1, w2]
  have w4 : IntKind.u64.wrap (-i) = u := by rw [IntKind.wrap_u64]; omega
  clear ho ht hU hI h1 hu
  unfold LayPost
  go_enter Tryz.func207, Tryz.ntmps207
  go_wp2_with (first
    | (at_builtin; go_loud (
       refine wpList_append_lies _ rfl _ _ _ rfl B 5 i0 (.int .u8 0) 1 1 Tryz.underlying53 hi hz0 hz1 hz2 rfl (by omega) _ xs.length (B8 xs) rfl (HO.out.alloc _) ⟨w.heap.size, 0, none⟩ 1 1 [.int .u8 45] rfl rfl (World.news_of_block (cs := #[.int .u8 45]) (t := 5) (fr := (0, 0)) (heap_alloc_new w _)) (by simp [Value.oneCell']) (by omega) (by unfold maxLen; omega) (by omega) (by simp; omega) (w.heap.size + 1) (by simp) ?_
       intro gg cq w1 hown hgrow hat hgl
       have H1 := hid (And.intro hown (And.intro (below_grown ((Below.refl B w).alloc hB _) hB (HO.out.alloc _) hgrow) ((HT.out.below (below1 w _)).grown (HO.out.alloc _) hgrow)))
       clear hown hgrow hat hgl))
    | (go_at_call 208; go_loud (
       refine (HU.out B _ (xs ++ [45]) w1 H1.out.2.2 (by simpa using H1.out.1) (Nat.le_trans hB H1.out.2.1.size) (by simp; omega)).mono ?_
       rintro e w2 ⟨v', rfl, ho2, hb2⟩
       have H2 := hid (And.intro ho2 (H1.out.2.1.trans hb2))
       clear ho2 hb2)))
  go_ret
  exact ⟨_, rfl, by simpa using H2.out.1, H2.out.2⟩
set_option maxHeartbeats 800000 in
theorem ilay_of (i : Int) (ds : List Int) (B : Nat) (v : Value) (xs : List Int) (w : World) (h : Calls Tryz.prog 207 #[v, .int .i64 i, .int .i64 10] w (LayPost B xs ds w)) :
    Calls Tryz.prog 205 #[.int .i64 i, v] w (LayPost B xs ds w) := by
  have h1 : Calls Tryz.prog 206 #[v, .int .i64 i, .int .i64 10] w (LayPost B xs ds w) := by
    have HA := hid h
    clear h
    unfold LayPost at *
    go_enter Tryz.func206, Tryz.ntmps206
    go_wp2_with (go_at_call 207; refine HA.out.mono ?_; rintro e w1 ⟨v', rfl, h⟩)
    go_ret
    exact ⟨_, rfl, h⟩
  have HA := hid h1
  clear h h1
  unfold LayPost at *
  go_enter Tryz.func205, Tryz.ntmps205
  go_wp2_with (go_at_call 206; refine HA.out.mono ?_; rintro e w1 ⟨v', rfl, h⟩)
  go_ret
  exact ⟨_, rfl, h⟩
def digI (U : Nat → List Int) (i : Int) : List Int := if 0 ≤ i then U i.toNat else 45 :: U (-i).toNat
theorem digs_of (T : Nat → Int) (U : Nat → List Int) (hU : ∀ u, u < 18446744073709551616 → ULay T u (U u) ∧ (U u).length ≤ 20 ∧ Oct (U u)) (w0 : World) (ht : Tab T w0) : Digs (digI U) w0 := by
  intro i h0 h1
  unfold digI
  by_cases hi : 0 ≤ i
  · rw [if_pos hi]
    obtain ⟨hl, h2, h3⟩ := hU i.toNat (by omega)
    refine ⟨?_, by omega, h3⟩
    intro B v xs w ho hB hb hx
    have := appendInt_pos T i.toNat (by omega) _ hl B v xs w (ht.below hb) ho hB (by omega)
    rw [show ((i.toNat : Nat) : Int) = i by omega] at this
    exact ilay_of i _ B v xs w this
  · rw [if_neg hi]
    obtain ⟨hl, h2, h3⟩ := hU (-i).toNat (by omega)
    refine ⟨?_, by simp; omega, ?_⟩
    · intro B v xs w ho hB hb hx
      have := appendInt_neg T (-i).toNat (by omega) (by omega) _ hl B v xs w (ht.below hb) ho hB (by omega)
      rw [show -(((-i).toNat : Nat) : Int) = i by omega] at this
      exact ilay_of i _ B v xs w this
    · intro b hb
      rcases List.mem_cons.1 hb with rfl | hb
      · omega
      · exact h3 b hb
end Go.Proofs.YthcoigbkdbkojabGreat
namespace Go.Proofs.YthcoigbkdbkojabGreat
open Go.RowKit
def smb (j : Nat) : Int := ((Lib.sm j).toNat : Int)
theorem kept_set {a w : World} {g : Nat} (h : Kept (fun k => k = g) a w) (i : Nat) (u : Value) : Kept (fun k => k = g) a (w.setCell ⟨g, i, none⟩ u) :=
  h.setCell (p := ⟨g, i, none⟩) (fun _ => rfl) u
set_option maxHeartbeats 6400000 in
theorem fmt2 (u : Nat) (h1 : u < 1000) (w : World) (g cp : Nat) (t : TypeId) (r : List Int) (hg : w.heap[g]? = some (.cells (B8 ([0, 0] ++ r)).toArray t (0, 0))) :
    Calls Tryz.prog 211 #[.slice (some ⟨g, 0, none⟩) 2 cp, .int .u64 u] w fun e w' => e = .returned (.tuple #[]) ∧ w'.heap[g]? = some (.cells (B8 ([smb (u % 100 * 2), smb (u % 100 * 2 + 1)] ++ r)).toArray t (0, 0)) ∧ Kept (fun k => k = g) w w' := by
  have mixed : Tryz.prog.follows Departure.mixedOrders = true := by kernel_rfl
  have HG0 := hid hg
  have HK0 := hid (Kept.refl (fun k => k = g) w)
  clear hg
  have z0 : w.cell? ⟨g, 0, none⟩ = some (.int .u8 (0)) := by rw [cell_of_row w g 0 _ _ _ HG0.out]; rfl
  have z1 : w.cell? ⟨g, 1, none⟩ = some (.int .u8 (0)) := by rw [cell_of_row w g 1 _ _ _ HG0.out]; rfl
  have ff : ∀ o, w.frozen? ⟨g, o, none⟩ = false := fun o => free_of_block HG0.out
  go_enter Tryz.func211, Tryz.ntmps211
  go_name_bytes SM hSM
  have eSM : SM = Lib.smalls := by rw [← hSM]; decide +kernel
  subst eSM
  clear hSM
  go_wp2
  refine wp_loop_rounds 1 ?_
  rw [rounds_succ]
  go_wp2
  go_name_slot 16 x0 hx0
  have hxe0 : x0 = ((u % 100 * 2 : Nat) : Int) := by omega
  have hXa0 : ∀ w, (Instr.index 9 (.string Lib.smalls) (.int .u32 (x0 + 1))).run Tryz.prog w = .ok (.int .u8 (smb (u % 100 * 2 + 1))) w := Lib.idx_smalls 9 Tryz.underlying9 .u32 _ _ (by omega) (by omega)
  have hXb0 : ∀ w, (Instr.index 9 (.string Lib.smalls) (.int .u32 x0)).run Tryz.prog w = .ok (.int .u8 (smb (u % 100 * 2))) w := Lib.idx_smalls 9 Tryz.underlying9 .u32 _ _ (by omega) (by omega)
  have hlo0 : 0 ≤ x0 := by omega
  have hhi0 : x0 ≤ 198 := by omega
  clear hx0 hxe0
  go_region_o
  go_wp2
  clear hXa0 hXb0
  refine bodyPost_end (results_none Tryz.results211 _ _ _) rfl ?_
  refine ⟨rfl, ?_, ?_⟩
  · simp [World.setCell, World.drew, Array.getElem?_modify, HG0.out, B8]
  · repeat' (first | exact HK0.out | refine Kept.drew ?_ | refine kept_set ?_ _ _)
end Go.Proofs.YthcoigbkdbkojabGreat
