import Derived.Test.YthcoigbkdbkojabGreatK07
set_option maxRecDepth 100000
namespace Go.Proofs.YthcoigbkdbkojabGreat
open Go.RowKit
theorem str_ne {s : ByteArray} (h : s ≠ ⟨#[]⟩) : s.toList ≠ [] := by
  intro e
  apply h
  rw [ByteArray.toList_eq] at e
  obtain ⟨⟨x⟩⟩ := s
  simp at e
  simp [e]
theorem str_ne2 {s : ByteArray} (h : s ≠ ⟨#[]⟩) : (s == (⟨#[]⟩ : ByteArray)) = false ∧ s.toList ≠ [] ∧ s.toList.isEmpty = false ∧ (s.toList == []) = false := by
  have h2 := str_ne h
  refine ⟨?_, h2, ?_, ?_⟩
  · rw [beq_toListBytes]
    rw [show (⟨#[]⟩ : ByteArray).toList = [] by rw [ByteArray.toList_eq]]
    cases hx : s.toList <;> simp_all
  · cases hx : s.toList <;> simp_all
  · cases hx : s.toList <;> simp_all
theorem emp_toList : (⟨#[]⟩ : ByteArray).toList = [] := by rw [ByteArray.toList_eq]
set_option maxHeartbeats 800000 in
theorem check_core (k i : Int) (s : ByteArray) (w : World) (a b : Int) (c : ByteArray) (hp : plainV k i s = vl a b c) (r : Int)
    (hc : (k == a) = false ∧ r = 14 ∨ (k == a) = true ∧ (i == b) = false ∧ r = 14 ∨ (k == a) = true ∧ (i == b) = true ∧ (s.toList == c.toList) = false ∧ r = 14 ∨
      (k == a) = true ∧ (i == b) = true ∧ (s.toList == c.toList) = true ∧ ((s.size : Int) ≤ 256 ∧ r = 0 ∨ (256 : Int) < s.size ∧ r = 4)) :
    Calls Tryz.prog 21 #[vl k i s] w fun x w' => x = .returned (.int .i64 r) ∧ Below w.heap.size w w' := by
  have hB0 := hid (below1 w (Obj.cells #[Value.int IntKind.i64 k, Value.int IntKind.i64 i, Value.string s] 29))
  have hR0 := hid (heap_alloc_new w (Obj.cells #[Value.int IntKind.i64 k, Value.int IntKind.i64 i, Value.string s] 29))
  have HP := hid hp
  clear hp
  rcases hc with ⟨h1, rfl⟩ | ⟨h1, h2, rfl⟩ | ⟨h1, h2, h3, rfl⟩ | ⟨h1, h2, h3, ⟨hg, rfl⟩ | ⟨hg, rfl⟩⟩
  all_goals
      go_enter Tryz.func21, Tryz.ntmps21
      go_wp2
      go_region_held (fun w' => w'.cell? ⟨w.heap.size, 0, none⟩ = some (.int .i64 k) ∧ w'.cell? ⟨w.heap.size, 1, none⟩ = some (.int .i64 i) ∧ w'.cell? ⟨w.heap.size, 2, none⟩ = some (.string s)) (go_keep) (first
              | (go_at_call 40
                 refine (plain_any k i s _).mono ?_
                 rintro e w1 ⟨rfl, hb1⟩
                 rw [HP.out]
                 have hb1' : Below (w.alloc (Obj.cells #[Value.int IntKind.i64 k, Value.int IntKind.i64 i, Value.string s] 29)).heap.size (w.alloc (Obj.cells #[Value.int IntKind.i64 k, Value.int IntKind.i64 i, Value.string s] 29)) w1 := ⟨hb1.os, hb1.tape, hb1.output, hb1.size, hb1.block⟩
                 have hr1 := blk_of hb1' hR0.out (by simp)
                 obtain ⟨c0, c1, c2, ff⟩ := vfacts hr1
                 have H1 := hid (And.intro hr1 (hB0.out.trans (hb1'.mono hB0.out.size)))
                 clear hb1 hb1' hr1))
      go_wp2
      go_ret
      exact ⟨rfl, H1.out.2⟩
theorem toList_inj {a b : ByteArray} (h : a.toList = b.toList) : a = b := by
  rw [ByteArray.toList_eq, ByteArray.toList_eq] at h
  obtain ⟨⟨x⟩⟩ := a
  obtain ⟨⟨y⟩⟩ := b
  simp at h
  simp [h]
theorem check_any (k i : Int) (s : ByteArray) (w : World) : Calls Tryz.prog 21 #[vl k i s] w fun x w' => x = .returned (.int .i64 (chk k i s)) ∧ Below w.heap.size w w' := by
  have hse : s ≠ ⟨#[]⟩ → (s.toList == (⟨#[]⟩ : ByteArray).toList) = false := by
    intro h
    rw [emp_toList]
    exact (str_ne2 h).2.2.2
  by_cases h1 : k = 1
  · subst h1
    refine check_core 1 i s w 1 i ⟨#[]⟩ rfl _ ?_
    by_cases hs : s = ⟨#[]⟩
    · subst hs
      exact .inr (.inr (.inr ⟨by simp, by simp, by simp, .inl ⟨by decide, by simp [chk]⟩⟩))
    · exact .inr (.inr (.inl ⟨by simp, by simp, hse hs, by simp [chk, hs]⟩))
  · by_cases h2 : k = 2
    · subst h2
      refine check_core 2 i s w 2 0 s rfl _ ?_
      by_cases hi : i = 0
      · subst hi
        by_cases hg : 256 < s.size
        · exact .inr (.inr (.inr ⟨by simp, by simp, by simp, .inr ⟨by omega, by simp [chk, hg]⟩⟩))
        · exact .inr (.inr (.inr ⟨by simp, by simp, by simp, .inl ⟨by omega, by simp [chk, hg]⟩⟩))
      · exact .inr (.inl ⟨by simp, by simpa using hi, by simp [chk, hi]⟩)
    · refine check_core k i s w 0 0 ⟨#[]⟩ (by simp [plainV, h1, h2]) _ ?_
      by_cases hk : k = 0
      · subst hk
        by_cases hi : i = 0
        · subst hi
          by_cases hs : s = ⟨#[]⟩
          · subst hs
            exact .inr (.inr (.inr ⟨by simp, by simp, by simp, .inl ⟨by decide, by simp [chk]⟩⟩))
          · exact .inr (.inr (.inl ⟨by simp, by simp, hse hs, by simp [chk, hs]⟩))
        · exact .inr (.inl ⟨by simp, by simpa using hi, by simp [chk, hi]⟩)
      · exact .inl ⟨by simpa using hk, by simp [chk, h1, h2, hk]⟩
def chd (k i : Int) (s : ByteArray) : Value := if chk k i s = 0 then thing k i s else .nilIface
set_option maxHeartbeats 800000 in
theorem checked_any (k i : Int) (s : ByteArray) (w : World) : Calls Tryz.prog 125 #[vl k i s] w fun x w' => x = .returned (chd k i s) ∧ Below w.heap.size w w' := by
  have hB0 := hid (below1 w (Obj.cells #[Value.int IntKind.i64 k, Value.int IntKind.i64 i, Value.string s] 29))
  have hR0 := hid (heap_alloc_new w (Obj.cells #[Value.int IntKind.i64 k, Value.int IntKind.i64 i, Value.string s] 29))
  obtain ⟨r, hr⟩ : ∃ r, r = chk k i s := ⟨_, rfl⟩
  have hch := check_any k i s
  rw [← hr] at hch
  have HC := hid hch
  have HR := hid hr
  clear hch hr
  by_cases h0 : r = 0
  · subst h0
    go_enter Tryz.func125, Tryz.ntmps125
    go_wp2_with (first
      | (go_at_call 21
         refine (HC.out _).mono ?_
         rintro e w1 ⟨rfl, hb1⟩
         have hr1 := blk_of hb1 hR0.out (by simp)
         obtain ⟨c0, c1, c2, ff⟩ := vfacts hr1
         have H1 := hid (hB0.out.trans (hb1.mono hB0.out.size))
         clear hb1 hr1)
      | (go_at_call 62
         refine (thingOf_any k i s _).mono ?_
         rintro e w2 ⟨rfl, hb2⟩))
    go_ret
    exact ⟨by simp [chd, ← HR.out], H1.out.trans (hb2.mono H1.out.size)⟩
  · have hb : (r == 0) = false := by simpa using h0
    go_enter Tryz.func125, Tryz.ntmps125
    go_wp2_with (
         go_at_call 21
         refine (HC.out _).mono ?_
         rintro e w1 ⟨rfl, hb1⟩
         have H1 := hid (hB0.out.trans (hb1.mono hB0.out.size))
         clear hb1)
    go_ret
    exact ⟨by simp [chd, ← HR.out, h0], H1.out⟩
def cmpI (a b : Int) : Int := if a < b then -1 else if b < a then 1 else 0
abbrev cmpS (a b : ByteArray) : Int := Lib.compareBytes a.data.toList b.data.toList
set_option maxHeartbeats 800000 in
theorem isNaN_int (a : Int) (w : World) : Calls Tryz.prog 180 #[.int .i64 a] w fun x w' => x = .returned (.bool false) ∧ w' = w := by
  go_enter Tryz.func180, Tryz.ntmps180
  go_wp2
  go_ret
  exact ⟨by simp, rfl⟩
set_option maxHeartbeats 800000 in
theorem isNaN_int64 (a : Int) (w : World) : Calls Tryz.prog 181 #[.int .i64 a] w fun x w' => x = .returned (.bool false) ∧ w' = w := by
  go_enter Tryz.func181, Tryz.ntmps181
  go_wp2
  go_ret
  exact ⟨by simp, rfl⟩
set_option maxHeartbeats 800000 in
theorem cmp_int (a b : Int) (w : World) : Calls Tryz.prog 171 #[.int .i64 a, .int .i64 b] w fun x w' => x = .returned (.int .i64 (cmpI a b)) ∧ w' = w := by
  obtain ⟨r, hr⟩ : ∃ r, r = cmpI a b := ⟨_, rfl⟩
  rw [← hr]
  have HR := hid hr
  clear hr
  rcases Int.lt_trichotomy a b with h | h | h
  all_goals
    go_enter Tryz.func171, Tryz.ntmps171
    go_wp2_with (
      go_at_call 180
      refine (isNaN_int _ _).mono ?_
      rintro e w1 ⟨rfl, e1⟩
      rw [e1]
      clear e1 w1)
    go_ret
    refine ⟨?_, rfl⟩
    rw [HR.out]
    first
      | (rw [show cmpI a b = -1 by unfold cmpI; rw [if_pos h]]; rfl)
      | (rw [show cmpI a b = 0 by unfold cmpI; rw [if_neg (by omega), if_neg (by omega)]]; rfl)
      | (rw [show cmpI a b = 1 by unfold cmpI; rw [if_neg (by omega), if_pos h]]; rfl)
set_option maxHeartbeats 800000 in
theorem cmp_int64 (a b : Int) (w : World) : Calls Tryz.prog 172 #[.int .i64 a, .int .i64 b] w fun x w' => x = .returned (.int .i64 (cmpI a b)) ∧ w' = w := by
  obtain ⟨r, hr⟩ : ∃ r, r = cmpI a b := ⟨_, rfl⟩
  rw [← hr]
  have HR := hid hr
  clear hr
  rcases Int.lt_trichotomy a b with h | h | h
  all_goals
    go_enter Tryz.func172, Tryz.ntmps172
    go_wp2_with (
      go_at_call 181
      refine (isNaN_int64 _ _).mono ?_
      rintro e w1 ⟨rfl, e1⟩
      rw [e1]
      clear e1 w1)
    go_ret
    refine ⟨?_, rfl⟩
    rw [HR.out]
    first
      | (rw [show cmpI a b = -1 by unfold cmpI; rw [if_pos h]]; rfl)
      | (rw [show cmpI a b = 0 by unfold cmpI; rw [if_neg (by omega), if_neg (by omega)]]; rfl)
      | (rw [show cmpI a b = 1 by unfold cmpI; rw [if_neg (by omega), if_pos h]]; rfl)
set_option maxHeartbeats 800000 in
theorem cmpString_any (a b : ByteArray) (w : World) : Calls Tryz.prog 182 #[.string a, .string b] w fun x w' => x = .returned (.int .i64 (cmpS a b)) ∧ w' = w := by
  go_enter Tryz.func182, Tryz.ntmps182
  go_wp2
  rw [run_callFunc_extern Tryz.func184 (by kernel_rfl) (by kernel_rfl) (by kernel_rfl) (e := Extern.BytealgCompare.compare) (by kernel_rfl), Lib.run_compareString]
  simp only [Result.andThen]
  rw [Oper.upon_value]
  go_wp2
  go_ret
  exact ⟨rfl, rfl⟩
set_option maxHeartbeats 800000 in
theorem strCompare_any (a b : ByteArray) (w : World) : Calls Tryz.prog 173 #[.string a, .string b] w fun x w' => x = .returned (.int .i64 (cmpS a b)) ∧ w' = w := by
  go_enter Tryz.func173, Tryz.ntmps173
  go_wp2_with (
      go_at_call 182
      refine (cmpString_any _ _ _).mono ?_
      rintro e w1 ⟨rfl, e1⟩
      rw [e1]
      clear e1 w1)
  go_ret
  exact ⟨rfl, rfl⟩
def cmpV (k i : Int) (s : ByteArray) (l j : Int) (t : ByteArray) : Int :=
  if cmpI k l ≠ 0 then cmpI k l else if k = 1 then cmpI i j else if k = 2 then cmpS s t else 0
abbrev vo (k i : Int) (s : ByteArray) : Obj := .cells #[.int .i64 k, .int .i64 i, .string s] 29
theorem ta60 (v : Value) (w : World) : (Instr.typeAssert (.iface 162 v) 141 162 true).run Tryz.prog w = .ok (.tuple #[v, .bool true]) w := by kernel_rfl
theorem ta6260 (v : Value) (w : World) : (Instr.typeAssert (.iface 163 v) 141 162 true).run Tryz.prog w = .ok (.tuple #[.int .i64 0, .bool false]) w := by kernel_rfl
theorem ta62 (v : Value) (w : World) : (Instr.typeAssert (.iface 163 v) 141 163 true).run Tryz.prog w = .ok (.tuple #[v, .bool true]) w := by kernel_rfl
theorem ta6062 (v : Value) (w : World) : (Instr.typeAssert (.iface 162 v) 141 163 true).run Tryz.prog w = .ok (.tuple #[.string ⟨#[]⟩, .bool false]) w := by kernel_rfl
theorem tan60 (w : World) : (Instr.typeAssert .nilIface 141 162 true).run Tryz.prog w = .ok (.tuple #[.int .i64 0, .bool false]) w := by kernel_rfl
theorem tan62 (w : World) : (Instr.typeAssert .nilIface 141 163 true).run Tryz.prog w = .ok (.tuple #[.string ⟨#[]⟩, .bool false]) w := by kernel_rfl
set_option maxHeartbeats 800000 in
theorem compare_any (k i : Int) (s : ByteArray) (l j : Int) (t : ByteArray) (w : World) : Calls Tryz.prog 149 #[vl k i s, vl l j t] w fun x w' => x = .returned (.int .i64 (cmpV k i s l j t)) ∧ Below w.heap.size w w' := by
  have hB0 := hid (below2 w (vo k i s) (vo l j t))
  have hR0 := hid (two2 w (vo k i s) (vo l j t))
  obtain ⟨c, hc⟩ : ∃ c, c = cmpI k l := ⟨_, rfl⟩
  have hcc : Hid (∀ w, Calls Tryz.prog 171 #[.int .i64 k, .int .i64 l] w fun x w' => x = .returned (.int .i64 c) ∧ w' = w) := hid (by rw [hc]; exact cmp_int k l)
  have HC := hid hc
  clear hc
  have q1 := ta60
  have q2 := ta6260
  have q3 := ta62
  have q4 := tan60
  have q5 := tan62
  by_cases h0 : c = 0
  · subst h0
    by_cases h1 : k = 1
    · subst h1
      go_enter Tryz.func149, Tryz.ntmps149
      go_wp2_with (first
        | (go_at_call 171
           refine (hcc.out _).mono ?_
           rintro e w1 ⟨rfl, e1⟩
           rw [e1]
           clear e1 w1)
        | (go_at_call 62
           refine (thingOf_any 1 i s _).mono ?_
           rintro e w1 ⟨rfl, hb1⟩
           rw [thing1]
           have hr1 := blk_of hb1 hR0.out (by simp)
           obtain ⟨c0, c1, c2, ff⟩ := vfacts hr1
           have H1 := hid (hB0.out.trans (hb1.mono hB0.out.size))
           clear hb1 hr1)
        | (go_at_call 172
           refine (cmp_int64 _ _ _).mono ?_
           rintro e w2 ⟨rfl, e2⟩
           rw [e2]
           clear e2 w2))
      go_ret
      exact ⟨by simp [cmpV, ← HC.out], H1.out⟩
    · by_cases h2 : k = 2
      · subst h2
        go_enter Tryz.func149, Tryz.ntmps149
        go_wp2_with (first
          | (go_at_call 171
             refine (hcc.out _).mono ?_
             rintro e w1 ⟨rfl, e1⟩
             rw [e1]
             clear e1 w1)
          | (go_at_call 62
             refine (thingOf_any 2 i s _).mono ?_
             rintro e w1 ⟨rfl, hb1⟩
             rw [thing2]
             have hr1 := blk_of hb1 hR0.out (by simp)
             obtain ⟨c0, c1, c2, ff⟩ := vfacts hr1
             have H1 := hid (hB0.out.trans (hb1.mono hB0.out.size))
             clear hb1 hr1)
          | (go_at_call 173
             refine (strCompare_any _ _ _).mono ?_
             rintro e w2 ⟨rfl, e2⟩
             rw [e2]
             clear e2 w2))
        go_ret
        exact ⟨by simp [cmpV, ← HC.out], H1.out⟩
      · go_enter Tryz.func149, Tryz.ntmps149
        go_wp2_with (first
          | (go_at_call 171
             refine (hcc.out _).mono ?_
             rintro e w1 ⟨rfl, e1⟩
             rw [e1]
             clear e1 w1)
          | (go_at_call 62
             refine (thingOf_any k i s _).mono ?_
             rintro e w1 ⟨rfl, hb1⟩
             rw [thing0 i s h1 h2]
             have H1 := hid (hB0.out.trans (hb1.mono hB0.out.size))
             clear hb1))
        go_ret
        exact ⟨by simp [cmpV, ← HC.out, h1, h2], H1.out⟩
  · have hb : (c == 0) = false := by simpa using h0
    go_enter Tryz.func149, Tryz.ntmps149
    go_wp2_with (
           go_at_call 171
           refine (hcc.out _).mono ?_
           rintro e w1 ⟨rfl, e1⟩
           rw [e1]
           clear e1 w1)
    go_ret
    exact ⟨by simp [cmpV, ← HC.out, h0], hB0.out⟩
abbrev emp : ByteArray := ⟨#[]⟩
theorem chd_cases (k i : Int) (s : ByteArray) : (k = 1 ∧ s = emp ∧ chd k i s = .iface 162 (.int .i64 i)) ∨ (k = 2 ∧ i = 0 ∧ s.size ≤ 256 ∧ chd k i s = .iface 163 (.string s)) ∨
    (chd k i s = .nilIface ∧ ¬ (k = 1 ∧ s = emp) ∧ ¬ (k = 2 ∧ i = 0 ∧ s.size ≤ 256)) := by
  unfold chd
  by_cases h1 : k = 1
  · subst h1
    by_cases hs : s = emp
    · subst hs
      exact .inl ⟨rfl, rfl, by simp [chk, thing]⟩
    · exact .inr (.inr ⟨by simp [chk, hs], by simp [hs], by simp⟩)
  · by_cases h2 : k = 2
    · subst h2
      by_cases hi : i = 0
      · subst hi
        by_cases hg : 256 < s.size
        · exact .inr (.inr ⟨by simp [chk, hg], by simp, by simp; omega⟩)
        · exact .inr (.inl ⟨rfl, rfl, by omega, by simp [chk, hg, thing]⟩)
      · exact .inr (.inr ⟨by simp [chk, hi], by simp, by simp [hi]⟩)
    · refine .inr (.inr ⟨?_, by simp [h1], by simp [h2]⟩)
      split
      · exact thing0 i s h1 h2
      · rfl
theorem three (w : World) (a b c : Obj) : (((w.alloc a).alloc b).alloc c).heap[w.heap.size]? = some a ∧ (((w.alloc a).alloc b).alloc c).heap[w.heap.size + 1]? = some b ∧
    (((w.alloc a).alloc b).alloc c).heap[w.heap.size + 1 + 1]? = some c ∧ Below w.heap.size w (((w.alloc a).alloc b).alloc c) := by
  refine ⟨?_, ?_, ?_, (below2 w a b).alloc (by simp; omega) c⟩
  · rw [Below.heap_alloc _ _ _ (by simp; omega)]; exact two1 w a b
  · rw [Below.heap_alloc _ _ _ (by simp)]; exact two2 w a b
  · have := heap_alloc_new ((w.alloc a).alloc b) c
    simpa using this
theorem below_on {w0 w w1 : World} (h0 : Below w0.heap.size w0 w) (h : Below w.heap.size w w1) : Below w0.heap.size w0 w1 := h0.trans (h.mono h0.size)
set_option maxHeartbeats 800000 in
theorem sum_any (x y : Int) (w : World) : Calls Tryz.prog 122 #[.int .i64 x, .int .i64 y] w fun e w' => e = .returned (.tuple #[.int .i64 (wrap64 (x + y)), .bool (decide (x < wrap64 (x + y)) == decide (0 < y))]) ∧ w' = w := by
  go_enter Tryz.func122, Tryz.ntmps122
  go_wp2
  go_ret2
  exact ⟨rfl, rfl⟩
set_option maxHeartbeats 800000 in
theorem diff_any (x y : Int) (w : World) : Calls Tryz.prog 123 #[.int .i64 x, .int .i64 y] w fun e w' => e = .returned (.tuple #[.int .i64 (wrap64 (x - y)), .bool (decide (wrap64 (x - y) < x) == decide (0 < y))]) ∧ w' = w := by
  go_enter Tryz.func123, Tryz.ntmps123
  go_wp2
  go_ret2
  exact ⟨rfl, rfl⟩
set_option maxHeartbeats 800000 in
theorem size_any (x : Int) (w : World) (h0 : -9223372036854775808 ≤ x) (h1 : x ≤ 9223372036854775807) : Calls Tryz.prog 147 #[.int .i64 x] w fun e w' => e = .returned (.int .u64 (x.natAbs : Nat)) ∧ w' = w := by
  by_cases hx : x < 0
  · go_enter Tryz.func147, Tryz.ntmps147
    go_wp2
    go_ret
    refine ⟨?_, rfl⟩
    have : IntKind.u64.wrap (-IntKind.u64.wrap x) = (x.natAbs : Int) := by
      rw [IntKind.wrap_u64, IntKind.wrap_u64]; omega
    rw [← this]
    rfl
  · go_enter Tryz.func147, Tryz.ntmps147
    go_wp2
    go_ret
    refine ⟨?_, rfl⟩
    have : x = (x.natAbs : Int) := by omega
    rw [← this]
    rfl
theorem sliteClone_any (s : ByteArray) (w : World) (hlim : s.size ≤ 281474976710656) :
    Calls Tryz.prog 109 #[.string s] w fun e w' => e = .returned (.string s) ∧ Below w.heap.size w w' := Any.stringslite_Clone Tryz.laysM316 s w hlim
set_option maxHeartbeats 800000 in
theorem strClone_any (s : ByteArray) (w : World) (hlim : s.size ≤ 281474976710656) :
    Calls Tryz.prog 80 #[.string s] w fun e w' => e = .returned (.string s) ∧ Below w.heap.size w w' := by
  go_enter Tryz.func80, Tryz.ntmps80
  go_wp2_with (go_at_call 109; refine (sliteClone_any s _ hlim).mono ?_; rintro e w' ⟨rfl, hb⟩)
  go_ret
  exact ⟨rfl, hb⟩
def isKeyB (s : ByteArray) : Bool := decide (0 < s.size ∧ s.size ≤ 64)
set_option maxHeartbeats 800000 in
theorem isKey_any (s : ByteArray) (w : World) : Calls Tryz.prog 144 #[.string s] w fun e w' => e = .returned (.bool (isKeyB s)) ∧ w' = w := by
  obtain ⟨b, hb⟩ : ∃ b, b = isKeyB s := ⟨_, rfl⟩
  rw [← hb]
  have HB := hid hb
  clear hb
  by_cases h0 : (0 : Int) < s.size
  · by_cases h1 : (s.size : Int) ≤ 64
    · go_enter Tryz.func144, Tryz.ntmps144
      go_wp2
      go_ret
      exact ⟨by rw [HB.out, show isKeyB s = true by unfold isKeyB; simp; omega]; rfl, rfl⟩
    · go_enter Tryz.func144, Tryz.ntmps144
      go_wp2
      go_ret
      exact ⟨by rw [HB.out, show isKeyB s = false by unfold isKeyB; simp; omega]; rfl, rfl⟩
  · go_enter Tryz.func144, Tryz.ntmps144
    go_wp2
    go_ret
    exact ⟨by rw [HB.out, show isKeyB s = false by unfold isKeyB; simp; omega]; rfl, rfl⟩
def inR (z : Int) : Bool := decide (-9223372036854775808 ≤ z ∧ z ≤ 9223372036854775807)
def Reck (F : Nat) (x y v : Int) : Prop := ∀ w : World, Calls Tryz.prog F #[.int .i64 x, .int .i64 y] w fun e w' => (∃ z, e = .returned (.tuple #[.int .i64 z, .bool (inR v)]) ∧ (inR v = true → z = v)) ∧ w' = w
theorem sum_reck (x y : Int) (hx : inR x = true) (hy : inR y = true) : Reck 122 x y (x + y) := by
  intro w
  refine (sum_any x y w).mono ?_
  rintro e w' ⟨rfl, rfl⟩
  unfold inR at *
  simp at hx hy
  refine ⟨⟨wrap64 (x + y), ?_, ?_⟩, rfl⟩
  · have e : (decide (x < wrap64 (x + y)) == decide (0 < y)) = decide (-9223372036854775808 ≤ x + y ∧ x + y ≤ 9223372036854775807) := by
      rw [Bool.eq_iff_iff]
      simp [wrap64]
      omega
    rw [e]
  · intro h
    simp at h
    simp [wrap64]
    omega
theorem diff_reck (x y : Int) (hx : inR x = true) (hy : inR y = true) : Reck 123 x y (x - y) := by
  intro w
  refine (diff_any x y w).mono ?_
  rintro e w' ⟨rfl, rfl⟩
  unfold inR at *
  simp at hx hy
  refine ⟨⟨wrap64 (x - y), ?_, ?_⟩, rfl⟩
  · have e : (decide (wrap64 (x - y) < x) == decide (0 < y)) = decide (-9223372036854775808 ≤ x - y ∧ x - y ≤ 9223372036854775807) := by
      rw [Bool.eq_iff_iff]
      simp [wrap64]
      omega
    rw [e]
  · intro h
    simp at h
    simp [wrap64]
    omega
theorem mul_abs (x y : Int) : ((x.natAbs * y.natAbs : Nat) : Int) = if (x < 0) = (y < 0) then x * y else -(x * y) := by
  rcases Int.lt_or_le x 0 with hx | hx <;> rcases Int.lt_or_le y 0 with hy | hy
  · rw [if_pos (by simp [hx, hy])]
    rw [Int.natCast_mul, show (x.natAbs : Int) = -x by omega, show (y.natAbs : Int) = -y by omega, Int.neg_mul_neg]
  · rw [if_neg (by simp [hx]; omega)]
    rw [Int.natCast_mul, show (x.natAbs : Int) = -x by omega, show (y.natAbs : Int) = y by omega, Int.neg_mul]
  · rw [if_neg (by simp [hy]; omega)]
    rw [Int.natCast_mul, show (x.natAbs : Int) = x by omega, show (y.natAbs : Int) = -y by omega, Int.mul_neg]
  · rw [if_pos (by simp; omega)]
    rw [Int.natCast_mul, show (x.natAbs : Int) = x by omega, show (y.natAbs : Int) = y by omega]
def rckV (v : Int) : Value := if inR v = true then .tuple #[vl 1 v emp, .int .i64 0] else .tuple #[vl 0 0 emp, .int .i64 15]
def isI (k : Int) (s : ByteArray) : Bool := decide (k = 1 ∧ s = emp)
theorem ta_chd (k i : Int) (s : ByteArray) : ∃ x, (isI k s = true → x = i) ∧ ∀ w : World, (Instr.typeAssert (chd k i s) 141 162 true).run Tryz.prog w = .ok (.tuple #[.int .i64 x, .bool (isI k s)]) w := by
  rcases chd_cases k i s with ⟨rfl, rfl, h⟩ | ⟨rfl, rfl, h2, h⟩ | ⟨h, h1, h2⟩
  · refine ⟨i, fun _ => rfl, fun w => ?_⟩
    rw [h, ta60, show isI 1 emp = true by simp [isI]]
  · refine ⟨0, fun h => by simp [isI] at h, fun w => ?_⟩
    rw [h, ta6260, show isI 2 s = false by simp [isI]]
  · have e : isI k s = false := by simpa [isI] using h1
    refine ⟨0, fun h => (by rw [e] at h; cases h), fun w => ?_⟩
    rw [h, tan60, e]
def rckT (a b : Bool) (v : Int) : Value := if (a && b) = true then rckV v else .tuple #[vl 0 0 emp, .int .i64 14]
set_option maxHeartbeats 1600000 in
theorem reckon_any (F : Nat) (k i : Int) (s : ByteArray) (l j : Int) (t : ByteArray) (v : Int) (hF : isI k s = true → isI l t = true → Reck F i j v) (hE : ∀ args w, (callFunc F args).run Tryz.prog w = .ok (.enter F args) w) (w : World) :
    Calls Tryz.prog 121 #[.func (.func F) #[] #[], vl k i s, vl l j t] w fun e w' => e = .returned (rckT (isI k s) (isI l t) v) ∧ Below w.heap.size w w' := by
  obtain ⟨hA, hB, hC, h0⟩ := three w (vo k i s) (vo l j t) (vo 0 0 emp)
  have HB := hid hB
  have HC := hid hC
  have H0 := hid h0
  clear hA hB hC h0
  obtain ⟨x, hx, qx⟩ := ta_chd k i s
  obtain ⟨y, hy, qy⟩ := ta_chd l j t
  have ha := checked_any k i s
  have hb := checked_any l j t
  obtain ⟨ca, hca⟩ : ∃ ca, ca = chd k i s := ⟨_, rfl⟩
  obtain ⟨cb, hcb⟩ : ∃ cb, cb = chd l j t := ⟨_, rfl⟩
  obtain ⟨ba, hba⟩ : ∃ ba, ba = isI k s := ⟨_, rfl⟩
  obtain ⟨bb, hbb⟩ : ∃ bb, bb = isI l t := ⟨_, rfl⟩
  rw [← hca] at ha qx
  rw [← hcb] at hb qy
  rw [← hba] at qx hx hF ⊢
  rw [← hbb] at qy hy hF ⊢
  have PA := hid ha
  have PB := hid hb
  clear ha hb hca hcb hba hbb
  have armA : ∀ w1 : World, Below (((w.alloc (vo k i s)).alloc (vo l j t)).alloc (vo 0 0 emp)).heap.size (((w.alloc (vo k i s)).alloc (vo l j t)).alloc (vo 0 0 emp)) w1 → w1.heap[w.heap.size + 1]? = some (vo l j t) ∧ w1.heap[w.heap.size + 1 + 1]? = some (vo 0 0 emp) ∧ Below w.heap.size w w1 := by
    intro w1 h
    exact ⟨blk_of h HB.out (by simp), blk_of h HC.out (by simp), below_on H0.out h⟩
  have HArm := hid armA
  clear armA HB HC H0
  by_cases hab : (ba && bb) = true
  · have e1 : ba = true := by revert hab; cases ba <;> simp
    have e2 : bb = true := by revert hab; cases bb <;> simp
    subst e1
    subst e2
    have ex : i = x := (hx rfl).symm
    have ey : j = y := (hy rfl).symm
    subst ex
    subst ey
    have HF := hid (hF rfl rfl)
    clear hx hy hF hab
    obtain ⟨r, hr⟩ : ∃ r, r = inR v := ⟨_, rfl⟩
    have HR := hid hr
    clear hr
    cases r
    · go_enter Tryz.func121, Tryz.ntmps121
      go_wp2_with (first
        | (go_at_call 125
           (with_reducible show Calls _ _ #[vl k i s] _ _)
           refine (PA.out _).mono ?_
           rintro e w1 ⟨rfl, hb1⟩
           obtain ⟨g1, g2, g3⟩ := HArm.out w1 hb1
           obtain ⟨d0, d1, d2, -⟩ := vfacts g1
           have H1 := hid (And.intro g2 g3)
           clear hb1 g1 g2 g3 HArm)
        | (go_at_call 125
           refine (PB.out _).mono ?_
           rintro e w2 ⟨rfl, hb2⟩
           have g2 := blk_of hb2 H1.out.1 (lt_of H1.out.1)
           obtain ⟨c0, c1, c2, ff⟩ := vfacts g2
           have H2 := hid (And.intro g2 (below_on H1.out.2 hb2))
           clear hb2 g2)
        | (go_at_fn F
           refine (HF.out _).mono ?_
           rintro e w3 ⟨⟨z, rfl, -⟩, e3⟩
           rw [e3]
           rw [← HR.out]
           clear e3 w3))
      refine bodyPost_ret (ret_agg2 Tryz.results121 rfl (set3 H2.out.1 _ _ _)) rfl ?_
      exact ⟨by simp [rckT, rckV, ← HR.out], Below.set3 H2.out.2 (by omega) _ _ _⟩
    · go_enter Tryz.func121, Tryz.ntmps121
      go_wp2_with (first
        | (go_at_call 125
           (with_reducible show Calls _ _ #[vl k i s] _ _)
           refine (PA.out _).mono ?_
           rintro e w1 ⟨rfl, hb1⟩
           obtain ⟨g1, g2, g3⟩ := HArm.out w1 hb1
           obtain ⟨d0, d1, d2, -⟩ := vfacts g1
           have H1 := hid (And.intro g2 g3)
           clear hb1 g1 g2 g3 HArm)
        | (go_at_call 125
           refine (PB.out _).mono ?_
           rintro e w2 ⟨rfl, hb2⟩
           have g2 := blk_of hb2 H1.out.1 (lt_of H1.out.1)
           obtain ⟨c0, c1, c2, ff⟩ := vfacts g2
           have H2 := hid (And.intro g2 (below_on H1.out.2 hb2))
           clear hb2 g2)
        | (go_at_fn F
           refine (HF.out _).mono ?_
           rintro e w3 ⟨⟨z, rfl, hz⟩, e3⟩
           have hz2 := hz HR.out.symm
           rw [e3, hz2]
           rw [← HR.out]
           clear e3 w3 hz hz2)
        | (go_at_call 145
           refine (ivalue_any _ _).mono ?_
           rintro e w4 ⟨rfl, hb4⟩
           have g4 := blk_of hb4 H2.out.1 (lt_of H2.out.1)
           obtain ⟨c0, c1, c2, ff⟩ := vfacts g4
           have H4 := hid (And.intro g4 (below_on H2.out.2 hb4))
           clear hb4 g4))
      refine bodyPost_ret (ret_agg2 Tryz.results121 rfl (set3 H4.out.1 _ _ _)) rfl ?_
      exact ⟨by simp [rckT, rckV, ← HR.out], Below.set3 H4.out.2 (by omega) _ _ _⟩
  · have e3 : rckT ba bb v = .tuple #[vl 0 0 emp, .int .i64 14] := by unfold rckT; rw [if_neg hab]
    rw [e3]
    clear e3 hx hy hF
    revert hab
    cases ba <;> cases bb <;> intro hab
    case true.true => exact absurd rfl hab
    all_goals
      clear hab
      go_enter Tryz.func121, Tryz.ntmps121
      go_wp2_with (first
        | (go_at_call 125
           (with_reducible show Calls _ _ #[vl k i s] _ _)
           refine (PA.out _).mono ?_
           rintro e w1 ⟨rfl, hb1⟩
           obtain ⟨g1, g2, g3⟩ := HArm.out w1 hb1
           obtain ⟨d0, d1, d2, -⟩ := vfacts g1
           have H1 := hid (And.intro g2 g3)
           clear hb1 g1 g2 g3 HArm)
        | (go_at_call 125
           refine (PB.out _).mono ?_
           rintro e w2 ⟨rfl, hb2⟩
           have g2 := blk_of hb2 H1.out.1 (lt_of H1.out.1)
           obtain ⟨c0, c1, c2, ff⟩ := vfacts g2
           have H2 := hid (And.intro g2 (below_on H1.out.2 hb2))
           clear hb2 g2))
      refine bodyPost_ret (ret_agg2 Tryz.results121 rfl (set3 H2.out.1 _ _ _)) rfl ?_
      exact ⟨rfl, Below.set3 H2.out.2 (by omega) _ _ _⟩
theorem rckT_shape (a b : Bool) (v : Int) : ∃ x y z u, rckT a b v = .tuple #[vl x y z, .int .i64 u] := by
  unfold rckT rckV
  split
  · split
    · exact ⟨_, _, _, _, rfl⟩
    · exact ⟨_, _, _, _, rfl⟩
  · exact ⟨_, _, _, _, rfl⟩
set_option maxHeartbeats 800000 in
theorem add_any (k i : Int) (s : ByteArray) (l j : Int) (t : ByteArray) (hi : inR i = true) (hj : inR j = true) (w : World) :
    Calls Tryz.prog 95 #[vl k i s, vl l j t] w fun e w' => e = .returned (rckT (isI k s) (isI l t) (i + j)) ∧ Below w.heap.size w w' := by
  obtain ⟨-, -, hC, h0⟩ := three w (vo k i s) (vo l j t) (vo 0 0 emp)
  have HC := hid hC
  have H0 := hid h0
  clear hC h0
  have hr := hid (reckon_any 122 k i s l j t (i + j) (fun _ _ => sum_reck i j hi hj) (enters_of Tryz.func122 (by kernel_rfl) rfl))
  have hsh := hid (rckT_shape (isI k s) (isI l t) (i + j))
  go_enter Tryz.func95, Tryz.ntmps95
  go_wp2_with (
    go_at_call 121
    refine (hr.out _).mono ?_
    rintro e w1 ⟨rfl, hb1⟩
    obtain ⟨a, b, c, d, hs⟩ := hsh.out
    rw [hs]
    have g2 := blk_of hb1 HC.out (by simp)
    obtain ⟨c0, c1, c2, ff⟩ := vfacts g2
    have HS := hid hs
    have H1 := hid (And.intro g2 (below_on H0.out hb1))
    clear hb1 g2 hs)
  refine bodyPost_ret (ret_agg2 Tryz.results95 rfl (set3 H1.out.1 _ _ _)) rfl ?_
  exact ⟨by rw [HS.out]; rfl, Below.set3 H1.out.2 (by omega) _ _ _⟩
set_option maxHeartbeats 800000 in
theorem sub_any (k i : Int) (s : ByteArray) (l j : Int) (t : ByteArray) (hi : inR i = true) (hj : inR j = true) (w : World) :
    Calls Tryz.prog 96 #[vl k i s, vl l j t] w fun e w' => e = .returned (rckT (isI k s) (isI l t) (i - j)) ∧ Below w.heap.size w w' := by
  obtain ⟨-, -, hC, h0⟩ := three w (vo k i s) (vo l j t) (vo 0 0 emp)
  have HC := hid hC
  have H0 := hid h0
  clear hC h0
  have hr := hid (reckon_any 123 k i s l j t (i - j) (fun _ _ => diff_reck i j hi hj) (enters_of Tryz.func123 (by kernel_rfl) rfl))
  have hsh := hid (rckT_shape (isI k s) (isI l t) (i - j))
  go_enter Tryz.func96, Tryz.ntmps96
  go_wp2_with (
    go_at_call 121
    refine (hr.out _).mono ?_
    rintro e w1 ⟨rfl, hb1⟩
    obtain ⟨a, b, c, d, hs⟩ := hsh.out
    rw [hs]
    have g2 := blk_of hb1 HC.out (by simp)
    obtain ⟨c0, c1, c2, ff⟩ := vfacts g2
    have HS := hid hs
    have H1 := hid (And.intro g2 (below_on H0.out hb1))
    clear hb1 g2 hs)
  refine bodyPost_ret (ret_agg2 Tryz.results96 rfl (set3 H1.out.1 _ _ _)) rfl ?_
  exact ⟨by rw [HS.out]; rfl, Below.set3 H1.out.2 (by omega) _ _ _⟩
def keyV (k i : Int) (s : ByteArray) : Value := if k = 2 ∧ i = 0 ∧ s.size ≤ 256 then (if isKeyB s = true then .tuple #[.string s, .int .i64 0] else .tuple #[.string emp, .int .i64 5]) else .tuple #[.string emp, .int .i64 14]
set_option maxHeartbeats 800000 in
theorem key_any (k i : Int) (s : ByteArray) (w : World) : Calls Tryz.prog 119 #[vl k i s] w fun e w' => e = .returned (keyV k i s) ∧ Below w.heap.size w w' := by
  have hB0 := hid (below1 w (vo k i s))
  have q1 := ta6062
  have q2 := ta62
  have q3 := tan62
  have ha := checked_any k i s
  rcases chd_cases k i s with ⟨rfl, rfl, h⟩ | ⟨rfl, rfl, h2, h⟩ | ⟨h, h1, h2⟩
  · rw [h] at ha
    have PA := hid ha
    have hk : keyV 1 i emp = .tuple #[.string emp, .int .i64 14] := by unfold keyV; rw [if_neg (by omega)]
    rw [hk]
    clear ha h hk
    go_enter Tryz.func119, Tryz.ntmps119
    go_wp2_with (
       go_at_call 125
       refine (PA.out _).mono ?_
       rintro e w1 ⟨rfl, hb1⟩
       have H1 := hid (below_on hB0.out hb1)
       clear hb1)
    go_ret2
    exact ⟨rfl, H1.out⟩
  · rw [h] at ha
    have PA := hid ha
    clear ha h
    obtain ⟨b, hb⟩ : ∃ b, b = isKeyB s := ⟨_, rfl⟩
    have hik := isKey_any s
    rw [← hb] at hik
    have HK := hid hik
    have hk : keyV 2 0 s = if b = true then .tuple #[.string s, .int .i64 0] else .tuple #[.string emp, .int .i64 5] := by unfold keyV; rw [if_pos ⟨rfl, rfl, h2⟩, hb]
    rw [hk]
    clear hik hb hk
    cases b
    all_goals
      go_enter Tryz.func119, Tryz.ntmps119
      go_wp2_with (first
       | (go_at_call 125
          refine (PA.out _).mono ?_
          rintro e w1 ⟨rfl, hb1⟩
          have H1 := hid (below_on hB0.out hb1)
          clear hb1)
       | (go_at_call 144
          refine (HK.out _).mono ?_
          rintro e w2 ⟨rfl, e2⟩
          rw [e2]
          clear e2 w2)
       | (go_at_call 80
          refine (strClone_any s _ (by omega)).mono ?_
          rintro e w3 ⟨rfl, hb3⟩
          have H3 := hid (below_on H1.out hb3)
          clear hb3))
      go_ret2
      first
        | exact ⟨rfl, H3.out⟩
        | exact ⟨rfl, H1.out⟩
  · rw [h] at ha
    have PA := hid ha
    have hk : keyV k i s = .tuple #[.string emp, .int .i64 14] := by unfold keyV; rw [if_neg h2]
    rw [hk]
    clear ha h h2 h1 hk
    go_enter Tryz.func119, Tryz.ntmps119
    go_wp2_with (
       go_at_call 125
       refine (PA.out _).mono ?_
       rintro e w1 ⟨rfl, hb1⟩
       have H1 := hid (below_on hB0.out hb1)
       clear hb1)
    go_ret2
    exact ⟨rfl, H1.out⟩
abbrev cmpTab : Obj := .cells #[.int .i64 1, .func (.func 165) #[] #[], .int .i64 2, .func (.func 166) #[] #[], .int .i64 3, .func (.func 167) #[] #[], .int .i64 4, .func (.func 168) #[] #[], .int .i64 5, .func (.func 169) #[] #[], .int .i64 6, .func (.func 170) #[] #[]] 215
set_option maxHeartbeats 1600000 in
theorem comparisons_any (w : World) : Calls Tryz.prog 148 #[] w fun x w' => x = .returned (.slice (some ⟨w.heap.size, 0, none⟩) 6 6) ∧ w'.heap[w.heap.size]? = some cmpTab ∧ Below w.heap.size w w' := by
  go_enter Tryz.func148, Tryz.ntmps148
  go_wp2
  go_ret
  exact ⟨rfl, heap_alloc_new w _, below1 w _⟩
set_option maxHeartbeats 800000 in
theorem met1 (c : Int) (w : World) : Calls Tryz.prog 165 #[.int .i64 c] w fun x w' => x = .returned (.bool (c == 0)) ∧ w' = w := by
  go_enter Tryz.func165, Tryz.ntmps165
  go_wp2
  go_ret
  exact ⟨rfl, rfl⟩
set_option maxHeartbeats 800000 in
theorem met2 (c : Int) (w : World) : Calls Tryz.prog 166 #[.int .i64 c] w fun x w' => x = .returned (.bool (!(c == 0))) ∧ w' = w := by
  go_enter Tryz.func166, Tryz.ntmps166
  go_wp2
  go_ret
  exact ⟨rfl, rfl⟩
set_option maxHeartbeats 800000 in
theorem met3 (c : Int) (w : World) : Calls Tryz.prog 167 #[.int .i64 c] w fun x w' => x = .returned (.bool (decide (c < 0))) ∧ w' = w := by
  go_enter Tryz.func167, Tryz.ntmps167
  go_wp2
  go_ret
  exact ⟨rfl, rfl⟩
set_option maxHeartbeats 800000 in
theorem met4 (c : Int) (w : World) : Calls Tryz.prog 168 #[.int .i64 c] w fun x w' => x = .returned (.bool (decide (c ≤ 0))) ∧ w' = w := by
  go_enter Tryz.func168, Tryz.ntmps168
  go_wp2
  go_ret
  exact ⟨rfl, rfl⟩
set_option maxHeartbeats 800000 in
theorem met5 (c : Int) (w : World) : Calls Tryz.prog 169 #[.int .i64 c] w fun x w' => x = .returned (.bool (decide (0 < c))) ∧ w' = w := by
  go_enter Tryz.func169, Tryz.ntmps169
  go_wp2
  go_ret
  exact ⟨rfl, rfl⟩
set_option maxHeartbeats 800000 in
theorem met6 (c : Int) (w : World) : Calls Tryz.prog 170 #[.int .i64 c] w fun x w' => x = .returned (.bool (decide (0 ≤ c))) ∧ w' = w := by
  go_enter Tryz.func170, Tryz.ntmps170
  go_wp2
  go_ret
  exact ⟨rfl, rfl⟩
end Go.Proofs.YthcoigbkdbkojabGreat
