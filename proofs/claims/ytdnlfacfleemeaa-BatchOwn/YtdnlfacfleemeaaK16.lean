import Derived.Test.YtdnlfacfleemeaaK15
import Derived.Handy
import Derived.Scope
import Derived.Test.YtdnlfacfleemeaaK14
namespace Go.Proofs.Ytdnlfacfleemeaa
open Go.RowKit Go.Lib

/-- A transaction as a value, as a block. -/
abbrev txv (t : Txd) (S1 S2 : Value) : Value := .agg #[.int .i64 t.k, .string t.pn, .int .i64 t.pa, S1, .string t.nm, S2]
abbrev txo (t : Txd) (S1 S2 : Value) (ty : TypeId) : Obj := .cells #[.int .i64 t.k, .string t.pn, .int .i64 t.pa, S1, .string t.nm, S2] ty

theorem vfacts6 {w : World} {r : Nat} {a b c d e f : Value} {t : TypeId} (h : w.heap[r]? = some (.cells #[a, b, c, d, e, f] t (0, 0))) :
    w.cell? ⟨r, 0, none⟩ = some a ∧ w.cell? ⟨r, 1, none⟩ = some b ∧ w.cell? ⟨r, 2, none⟩ = some c ∧ w.cell? ⟨r, 3, none⟩ = some d ∧ w.cell? ⟨r, 4, none⟩ = some e ∧ w.cell? ⟨r, 5, none⟩ = some f ∧ ∀ o, w.frozen? ⟨r, o, none⟩ = false := by
  refine ⟨?_, ?_, ?_, ?_, ?_, ?_, fun o => by simp [World.frozen?, h]⟩ <;> (rw [cell_of_row w _ _ _ _ _ h]; rfl)

theorem vfacts2 {w : World} {r : Nat} {a b : Value} {t : TypeId} (h : w.heap[r]? = some (.cells #[a, b] t (0, 0))) :
    w.cell? ⟨r, 0, none⟩ = some a ∧ w.cell? ⟨r, 1, none⟩ = some b ∧ ∀ o, w.frozen? ⟨r, o, none⟩ = false := by
  refine ⟨?_, ?_, fun o => by simp [World.frozen?, h]⟩ <;> (rw [cell_of_row w _ _ _ _ _ h]; rfl)

theorem procChk_name (s : ByteArray) : (procChk s 0 []).2 = if nameB s = true then 0 else 5 := by
  unfold procChk
  by_cases h : nameB s = true
  · rw [if_pos h, if_pos h, if_pos (by decide), if_pos (by decide)]
    rfl
  · rw [if_neg h, if_neg h]

theorem ne_emp {s : ByteArray} (h : s ≠ emp) : (s.toList == ([] : List UInt8)) = false ∧ (s == emp) = false := by
  obtain ⟨h1, h2, -⟩ := str_ne2 (s := s) h
  exact ⟨by simpa using h2, h1⟩

set_option maxRecDepth 100000 in
set_option maxHeartbeats 800000 in
theorem isProc_any (s : ByteArray) (w : World) : Calls Try.prog 107 #[.string s] w fun x w' => x = .returned (.bool (nameB s)) ∧ Below w.heap.size w w' := by
  have HC := hid (fun W => pcheck_any s 0 (.slice none 0 0) [] W ⟨none, 0, rfl, Nat.le_refl _, fun h => absurd rfl h⟩ (by decide))
  have hn := procChk_name s
  obtain ⟨R1, R2, hR⟩ : ∃ R1 R2, procChk s 0 [] = (R1, R2) := ⟨_, _, rfl⟩
  rw [hR] at HC hn
  dsimp only at HC hn
  subst hn
  clear hR
  by_cases h : nameB s = true
  · rw [if_pos h] at HC
    rw [h]
    clear h
    go_enter Try.func107, Try.ntmps107
    go_wp2_with (first
      | (go_at_call 40
         refine (HC.out _).mono ?_
         rintro e w1 ⟨rfl, hb1⟩
         have H1 := hid hb1
         clear hb1))
    go_ret
    exact ⟨rfl, H1.out⟩
  · rw [if_neg h] at HC
    have hf : nameB s = false := by simpa using h
    rw [hf]
    clear h hf
    go_enter Try.func107, Try.ntmps107
    go_wp2_with (first
      | (go_at_call 40
         refine (HC.out _).mono ?_
         rintro e w1 ⟨rfl, hb1⟩
         have H1 := hid hb1
         clear hb1))
    go_ret
    exact ⟨rfl, H1.out⟩

/-- A definition's check. -/
def dchk (t : Txd) : Int := if t.nm = emp ∧ t.vs = [] then (procChk t.pn t.pa t.xs).2 else 3

theorem VsAt.form {B : Nat} {w : World} {S : Value} {vs : List Vd} (h : VsAt B w S vs) : ∃ ao cap, S = .slice ao vs.length cap := by
  obtain ⟨ao, cap, h, _⟩ := h
  exact ⟨ao, cap, h⟩
theorem CdAt.form {B : Nat} {w : World} {S : Value} {xs : List Ins} (h : CdAt B w S xs) : ∃ ao cap, S = .slice ao xs.length cap := by
  obtain ⟨ao, cap, h, _⟩ := h
  exact ⟨ao, cap, h⟩

set_option maxRecDepth 100000 in
set_option maxHeartbeats 1600000 in
theorem dcheck_any (B : Nat) (t : Txd) (S1 S2 : Value) (w : World) (h1 : CdAt B w S1 t.xs) (h2 : VsAt B w S2 t.vs) (hl : t.xs.length ≤ 1000000000) :
    Calls Try.prog 105 #[txv t S1 S2] w fun x w' => x = .returned (.int .i64 (dchk t)) ∧ Below w.heap.size w w' := by
  have hB0 := hid (below1 w (txo t S1 S2 73))
  have HR := hid (heap_alloc_new w (txo t S1 S2 73))
  have HC := hid (fun W hW => pcheck_any t.pn t.pa S1 t.xs W hW hl)
  have HH := hid h1.code
  obtain ⟨a1, c1, rfl⟩ := h1.form
  obtain ⟨a2, c2, rfl⟩ := h2.form
  clear h1 h2
  unfold dchk
  by_cases e1 : t.nm = emp
  · by_cases e2 : t.vs = []
    · rw [if_pos ⟨e1, e2⟩]
      obtain ⟨R1, R2, hR⟩ : ∃ R1 R2, procChk t.pn t.pa t.xs = (R1, R2) := ⟨_, _, rfl⟩
      rw [hR] at HC ⊢
      dsimp only at HC ⊢
      obtain ⟨k, pn, pa, xs, nm, vs⟩ := t
      dsimp only at *
      subst e1 e2
      clear hR
      go_enter Try.func105, Try.ntmps105
      go_wp2_with (first
        | (go_at_call 40
           refine (HC.out _ (HH.out.below (below1 w _))).mono ?_
           rintro e w1 ⟨rfl, hb1⟩
           have H1 := hid (below_on hB0.out hb1)
           clear hb1))
      go_ret
      exact ⟨rfl, H1.out⟩
    · rw [if_neg (fun h => e2 h.2)]
      obtain ⟨k, pn, pa, xs, nm, vs⟩ := t
      dsimp only at *
      subst e1
      have hp : (0 : Int) < (vs.length : Int) := by have := List.length_pos_iff.2 e2; omega
      clear e2
      go_enter Try.func105, Try.ntmps105
      go_wp2
      go_ret
      exact ⟨rfl, hB0.out⟩
  · rw [if_neg (fun h => e1 h.1)]
    obtain ⟨k, pn, pa, xs, nm, vs⟩ := t
    dsimp only at *
    obtain ⟨n1, n2⟩ := ne_emp e1
    clear e1
    go_enter Try.func105, Try.ntmps105
    go_wp2
    go_ret
    exact ⟨rfl, hB0.out⟩

/-- A call's check, its values left aside. -/
def cchk (t : Txd) : Int := if t.pn = emp ∧ t.pa = 0 ∧ t.xs = [] then (if nameB t.nm = true then (if t.vs.length ≤ 16 then 0 else 4) else 5) else 3

set_option maxRecDepth 100000 in
set_option maxHeartbeats 1600000 in
theorem ccheck_any (B : Nat) (t : Txd) (S1 S2 : Value) (w : World) (h1 : CdAt B w S1 t.xs) (h2 : VsAt B w S2 t.vs) :
    Calls Try.prog 106 #[txv t S1 S2] w fun x w' => x = .returned (.int .i64 (cchk t)) ∧ Below w.heap.size w w' := by
  have hB0 := hid (below1 w (txo t S1 S2 77))
  have HR := hid (heap_alloc_new w (txo t S1 S2 77))
  have HC := hid (isProc_any t.nm)
  obtain ⟨a1, c1, rfl⟩ := h1.form
  obtain ⟨a2, c2, rfl⟩ := h2.form
  clear h1 h2
  unfold cchk
  obtain ⟨k, pn, pa, xs, nm, vs⟩ := t
  dsimp only at *
  by_cases e1 : pn = emp
  · by_cases e2 : pa = 0
    · by_cases e3 : xs = []
      · rw [if_pos ⟨e1, e2, e3⟩]
        subst e1 e2 e3
        by_cases e4 : nameB nm = true
        · rw [if_pos e4]
          rw [e4] at HC
          clear e4
          by_cases e5 : vs.length ≤ 16
          · rw [if_pos e5]
            have hp : decide ((16 : Int) < (vs.length : Int)) = false := by simp; omega
            clear e5
            go_enter Try.func106, Try.ntmps106
            go_wp2_with (first
              | (go_at_call 107
                 refine (HC.out _).mono ?_
                 rintro e w1 ⟨rfl, hb1⟩
                 have H1 := hid (below_on hB0.out hb1)
                 obtain ⟨p0, p1, p2, p3, p4, p5, -⟩ := vfacts6 (blk_of hb1 HR.out (by simp))
                 clear hb1))
            go_ret
            exact ⟨rfl, H1.out⟩
          · rw [if_neg e5]
            have hp : (16 : Int) < (vs.length : Int) := by omega
            clear e5
            go_enter Try.func106, Try.ntmps106
            go_wp2_with (first
              | (go_at_call 107
                 refine (HC.out _).mono ?_
                 rintro e w1 ⟨rfl, hb1⟩
                 have H1 := hid (below_on hB0.out hb1)
                 obtain ⟨p0, p1, p2, p3, p4, p5, -⟩ := vfacts6 (blk_of hb1 HR.out (by simp))
                 clear hb1))
            go_ret
            exact ⟨rfl, H1.out⟩
        · rw [if_neg e4]
          have e4' : nameB nm = false := by simpa using e4
          rw [e4'] at HC
          clear e4 e4'
          go_enter Try.func106, Try.ntmps106
          go_wp2_with (first
            | (go_at_call 107
               refine (HC.out _).mono ?_
               rintro e w1 ⟨rfl, hb1⟩
               have H1 := hid (below_on hB0.out hb1)
               clear hb1))
          go_ret
          exact ⟨rfl, H1.out⟩
      · rw [if_neg (fun h => e3 h.2.2)]
        subst e1 e2
        have hp : (0 : Int) < (xs.length : Int) := by have := List.length_pos_iff.2 e3; omega
        clear e3
        go_enter Try.func106, Try.ntmps106
        go_wp2
        go_ret
        exact ⟨rfl, hB0.out⟩
    · rw [if_neg (fun h => e2 h.2.1)]
      subst e1
      have n1 : (pa == 0) = false := by simpa using e2
      have n2 : (pa != 0) = true := by simpa using e2
      clear e2
      go_enter Try.func106, Try.ntmps106
      go_wp2
      go_ret
      exact ⟨rfl, hB0.out⟩
  · rw [if_neg (fun h => e1 h.1)]
    obtain ⟨n1, n2⟩ := ne_emp e1
    clear e1
    go_enter Try.func106, Try.ntmps106
    go_wp2
    go_ret
    exact ⟨rfl, hB0.out⟩

/-- A deed. -/
def deed (t : Txd) (S1 S2 : Value) : Value := if t.k = 1 then .iface 73 (txv t S1 S2) else if t.k = 2 then .iface 77 (txv t S1 S2) else .nilIface

set_option maxRecDepth 100000 in
set_option maxHeartbeats 1600000 in
theorem deedOf_any (t : Txd) (S1 S2 : Value) (w : World) : Calls Try.prog 18 #[txv t S1 S2] w fun x w' => x = .returned (deed t S1 S2) ∧ Below w.heap.size w w' := by
  have hB0 := hid (below1 w (txo t S1 S2 30))
  unfold deed
  obtain ⟨k, pn, pa, xs, nm, vs⟩ := t
  dsimp only at *
  by_cases h1 : k = 1
  · rw [if_pos h1]
    subst h1
    go_enter Try.func18, Try.ntmps18
    go_wp2
    go_ret
    exact ⟨rfl, hB0.out⟩
  · rw [if_neg h1]
    have e1 : (k == 1) = false := by simpa using h1
    clear h1
    by_cases h2 : k = 2
    · rw [if_pos h2]
      subst h2
      go_enter Try.func18, Try.ntmps18
      go_wp2
      go_ret
      exact ⟨rfl, hB0.out⟩
    · rw [if_neg h2]
      have e2 : (k == 2) = false := by simpa using h2
      clear h2
      go_enter Try.func18, Try.ntmps18
      go_wp2
      go_ret
      exact ⟨rfl, hB0.out⟩

end Go.Proofs.Ytdnlfacfleemeaa

namespace Go.Proofs.Ytdnlfacfleemeaa
open Go.RowKit Go.Lib

theorem neq61a (v : Value) (w : World) : (binOp BinOp.neq 61 (.iface 73 v) .nilIface).run Try.prog w = .ok (.bool true) w := by kernel_rfl
theorem neq61b (v : Value) (w : World) : (binOp BinOp.neq 61 (.iface 77 v) .nilIface).run Try.prog w = .ok (.bool true) w := by kernel_rfl
theorem neq61c (w : World) : (binOp BinOp.neq 61 .nilIface .nilIface).run Try.prog w = .ok (.bool false) w := by kernel_rfl

theorem txHead_eq (t : Txd) : txHead t = if t.k = 1 then dchk t else if t.k = 2 then cchk t else 1 := rfl

set_option maxRecDepth 100000 in
set_option maxHeartbeats 1600000 in
theorem tcheck_any (B : Nat) (t : Txd) (S1 S2 : Value) (w : World) (h1 : CdAt B w S1 t.xs) (h2 : VsAt B w S2 t.vs) (hl : t.xs.length ≤ 1000000000) :
    Calls Try.prog 24 #[txv t S1 S2] w fun x w' => x = .returned (.int .i64 (txHead t)) ∧ Below w.heap.size w w' := by
  have hB0 := hid (below1 w (txo t S1 S2 30))
  have HD := hid (fun W => deedOf_any t S1 S2 W)
  have HC := hid (fun W (hb : Below w.heap.size w W) => ccheck_any B t S1 S2 W (h1.same (Same.below hb)) (h2.same (Same.below hb)))
  have HE := hid (fun W (hb : Below w.heap.size w W) => dcheck_any B t S1 S2 W (h1.same (Same.below hb)) (h2.same (Same.below hb)) hl)
  obtain ⟨a1, c1, rfl⟩ := h1.form
  obtain ⟨a2, c2, rfl⟩ := h2.form
  clear h1 h2
  have n1 := neq61a
  have n2 := neq61b
  have n3 := neq61c
  rw [txHead_eq]
  unfold deed at HD
  by_cases k1 : t.k = 1
  · rw [if_pos k1] at HD ⊢
    generalize dchk t = R at HE ⊢
    clear HC k1
    go_enter Try.func24, Try.ntmps24
    go_wp2_with (first
      | (go_at_call 18
         refine (HD.out _).mono ?_
         rintro e w1 ⟨rfl, hb1⟩
         have H1 := hid (below_on hB0.out hb1)
         clear hb1)
      | (go_at_call 105
         refine (HE.out _ H1.out).mono ?_
         rintro e w2 ⟨rfl, hb2⟩
         have H2 := hid (below_on H1.out hb2)
         clear hb2))
    go_ret
    exact ⟨rfl, H2.out⟩
  · rw [if_neg k1] at HD ⊢
    by_cases k2 : t.k = 2
    · rw [if_pos k2] at HD ⊢
      generalize cchk t = R at HC ⊢
      clear HE k1 k2
      go_enter Try.func24, Try.ntmps24
      go_wp2_with (first
        | (go_at_call 18
           refine (HD.out _).mono ?_
           rintro e w1 ⟨rfl, hb1⟩
           have H1 := hid (below_on hB0.out hb1)
           clear hb1)
        | (go_at_call 106
           refine (HC.out _ H1.out).mono ?_
           rintro e w2 ⟨rfl, hb2⟩
           have H2 := hid (below_on H1.out hb2)
           clear hb2))
      go_ret
      exact ⟨rfl, H2.out⟩
    · rw [if_neg k2] at HD ⊢
      clear HC HE k1 k2
      go_enter Try.func24, Try.ntmps24
      go_wp2_with (first
        | (go_at_call 18
           refine (HD.out _).mono ?_
           rintro e w1 ⟨rfl, hb1⟩
           have H1 := hid (below_on hB0.out hb1)
           clear hb1))
      go_ret
      exact ⟨rfl, H1.out⟩

/-- Lengths within the machine's. -/
def TxL (t : Txd) : Prop := t.xs.length ≤ 1000000000 ∧ t.vs.length ≤ 1000000000

theorem drop_at {α : Type} {l : List α} {n : Nat} {x : α} (h : l[n]? = some x) : l.drop n = x :: l.drop (n + 1) := by
  have hlt := (List.getElem?_eq_some_iff.1 h).1
  rw [List.drop_eq_getElem_cons hlt]
  congr 1
  exact (List.getElem?_eq_some_iff.1 h).2

theorem tround {w wr w2 : World} {o : Obj} (h : Below w.heap.size w wr) (hb : Below (wr.alloc o).heap.size (wr.alloc o) w2) : Below w.heap.size w w2 ∧ w2.heap[wr.heap.size]? = some o :=
  ⟨below_on h (below_on (below1 wr o) hb), blk_of hb (heap_alloc_new wr o) (by simp)⟩

set_option maxRecDepth 100000 in
set_option maxHeartbeats 4000000 in
theorem foff_any (B : Nat) (S : Value) (ts : List Txd) (w : World) (h : TsAt B w S ts) (hL : ∀ t ∈ ts, TxL t) (hl : ts.length ≤ 1000000000) :
    Calls Try.prog 15 #[S] w fun x w' => x = .returned (.int .i64 (tsChk ts)) ∧ Below w.heap.size w w' := by
  obtain ⟨ao, cap, rfl, hcap, hcells⟩ := h
  obtain ⟨R, hR⟩ : ∃ R, R = tsChk ts := ⟨_, rfl⟩
  rw [← hR]
  have HR := hid hR
  have HX := hid hcells
  have HL := hid hL
  clear hR hcells hL
  go_enter Try.func15, Try.ntmps15
  go_wp2
  refine wp_scope_straight ?_
  go_wp2
  refine wp_label ?_
  go_wp2
  go_loopw [2, 9] (fun e0 ix wr => ∃ (n : Nat), n ≤ ts.length ∧ e0 = .int .i64 0 ∧ ix = .int .i64 n ∧ Hid (Below w.heap.size w wr) ∧ Hid (tsChk (ts.drop n) = R)) (fun _ ix _ => ts.length - (intOf ix).toNat)
  case atStart => exact ⟨0, Nat.zero_le _, rfl, rfl, hid (Below.refl _ _), hid HR.out.symm⟩
  case round =>
    obtain ⟨n, hn, rfl, rfl, hP, hK⟩ := hrel
    by_cases hlt : n < ts.length
    · obtain ⟨t, ht⟩ : ∃ t, ts[n]? = some t := ⟨_, List.getElem?_eq_getElem hlt⟩
      obtain ⟨b, off, rfl, hBb, hat⟩ := HX.out (by intro e; rw [e] at hlt; simp at hlt)
      obtain ⟨S1, S2, hc, hS1, hS2⟩ := hat n t ht
      obtain ⟨c0, c1, c2, c3, c4, c5⟩ := hc.same (hP.out.block b hc.lt)
      have hlt' : (n : Int) < (ts.length : Int) := by omega
      have hk2 := hK.out
      rw [drop_at ht, tsChk, txChk] at hk2
      have HTL := hid (HL.out t (List.mem_of_getElem? ht))
      have HS := hid (And.intro hS1 hS2)
      obtain ⟨a1, cc1, rfl⟩ := hS1.form
      obtain ⟨a2, cc2, rfl⟩ := hS2.form
      have m2 := World.new_ne wr ⟨b, off + n * 6, none⟩ c0
      have HT := hid (fun W (hb : Below w.heap.size w W) => tcheck_any B t _ _ W (HS.out.1.same (Same.below hb)) (HS.out.2.same (Same.below hb)) HTL.out.1)
      clear hc hat ht hS1 hS2 hK
      by_cases h0 : txHead t = 0
      · rw [if_pos h0] at hk2
        rw [h0] at HT
        have HK2 := hid hk2
        clear hk2 h0
        go_wp2_with (first
          | (go_at_call 24
             refine (HT.out _ (below_on hP.out (below1 wr _))).mono ?_
             rintro e w2 ⟨rfl, hb2⟩
             have H2 := hid (tround hP.out hb2)
             obtain ⟨p0, p1, p2, p3, p4, p5, -⟩ := vfacts6 H2.out.2
             have H3 := hid H2.out.1
             clear hb2))
        clear H2 HT c0 c1 c2 c3 c4 c5 m2 p0 p1 p2 p3 p4 p5
        go_loopw [2, 20] (fun e0 iy wz => ∃ (m : Nat), m ≤ t.vs.length ∧ e0 = .int .i64 0 ∧ iy = .int .i64 m ∧ Hid (Below w.heap.size w wz) ∧ Hid ((if vsChk (t.vs.drop m) = 0 then tsChk (ts.drop (n + 1)) else vsChk (t.vs.drop m)) = R)) (fun _ iy _ => t.vs.length - (intOf iy).toNat)
        case atStart => exact ⟨0, Nat.zero_le _, rfl, rfl, H3, hid HK2.out⟩
        case round =>
          rename World => wz
          clear H3 HK2
          obtain ⟨m, hm, rfl, rfl, hP2, hK2⟩ := hrel
          have hml := HTL.out.2
          by_cases hlt2 : m < t.vs.length
          · obtain ⟨v, hv⟩ : ∃ v, t.vs[m]? = some v := ⟨_, List.getElem?_eq_getElem hlt2⟩
            obtain ⟨ao3, cap3, hao3, hcap3, hc3⟩ := HS.out.2
            obtain ⟨b3, off3, hb3, hB3, hat3⟩ := hc3 (by intro e; rw [e] at hlt2; simp at hlt2)
            injection hao3 with hao3 hx5 hx6
            clear hx5 hx6 hcap3
            rw [hb3] at hao3
            subst hao3
            have hvd := hat3 m v hv
            obtain ⟨c0, c1, c2⟩ := hvd.same (hP2.out.block b3 hvd.lt)
            have hlt2' : (m : Int) < (t.vs.length : Int) := by omega
            have hk3 := hK2.out
            rw [drop_at hv, vsChk] at hk3
            have m3 := World.new_ne wz ⟨b3, off3 + m * 3, none⟩ c0
            have HT := hid (check_any v.k v.i v.t)
            clear hc3 hat3 hvd hv hK2 hb3
            by_cases h0 : chk v.k v.i v.t = 0
            · rw [if_pos h0] at hk3
              rw [h0] at HT
              have HK3 := hid hk3
              clear hk3 h0
              go_wp2_with (first
                | (go_at_call 25
                   refine (HT.out _).mono ?_
                   rintro e w3 ⟨rfl, hb3⟩
                   have H3 := hid (below_on hP2.out (below_on (below1 wz _) hb3))
                   clear hb3))
              go_roundw
              case rel => exact ⟨m + 1, by omega, rfl, by go_num, H3, HK3⟩
              case measure => simp [intOf]; omega
            · rw [if_neg h0, if_neg h0] at hk3
              have he3 : (chk v.k v.i v.t == 0) = false := by simpa using h0
              have HK3 := hid hk3
              clear hk3 h0
              generalize chk v.k v.i v.t = E at *
              go_wp2_with (first
                | (go_at_call 25
                   refine (HT.out _).mono ?_
                   rintro e w3 ⟨rfl, hb3⟩
                   have H3 := hid (below_on hP2.out (below_on (below1 wz _) hb3))
                   clear hb3))
              rw [Exit.noGoto_ret]
              go_ret
              exact ⟨by rw [← HK3.out]; rfl, H3.out⟩
          · have hdrop : t.vs.drop m = [] := List.drop_eq_nil_of_le (by omega)
            have hk3 := hK2.out
            rw [hdrop, vsChk, if_pos rfl] at hk3
            have HK3 := hid hk3
            have hd2 : decide ((m : Int) < (t.vs.length : Int)) = false := by simp; omega
            clear hK2 hk3 hdrop
            go_wp2
            go_roundw
            case rel => exact ⟨n + 1, by omega, rfl, by go_num, hP2, HK3⟩
            case measure => simp [intOf]; omega
      · rw [if_neg h0, if_neg h0] at hk2
        have he2 : (txHead t == 0) = false := by simpa using h0
        have HK2 := hid hk2
        clear hk2 h0
        generalize txHead t = E at *
        go_wp2_with (first
          | (go_at_call 24
             refine (HT.out _ (below_on hP.out (below1 wr _))).mono ?_
             rintro e w2 ⟨rfl, hb2⟩
             have H2 := hid (tround hP.out hb2)
             clear hb2))
        rw [Exit.noGoto_ret]
        go_ret
        exact ⟨by rw [← HK2.out]; rfl, H2.out.1⟩
    · have hdrop : ts.drop n = [] := List.drop_eq_nil_of_le (by omega)
      have hk2 := hK.out
      rw [hdrop, tsChk] at hk2
      have HK2 := hid hk2
      clear hK hk2 hdrop
      go_wp2
      rw [Exit.noGoto_ret]
      go_ret
      exact ⟨by rw [← HK2.out]; rfl, hP.out⟩

end Go.Proofs.Ytdnlfacfleemeaa

namespace Go.Proofs.Ytdnlfacfleemeaa
open Go.RowKit Go.Lib

abbrev bo (f : Int) (S : Value) : Obj := .cells #[.int .i64 f, S] 24

set_option maxRecDepth 100000 in
set_option maxHeartbeats 1600000 in
theorem bcheck_any (B : Nat) (f : Int) (S : Value) (ts : List Txd) (w : World) (h : TsAt B w S ts) (hL : ∀ t ∈ ts, TxL t) (hl : ts.length ≤ 1000000000) :
    Calls Try.prog 7 #[.agg #[.int .i64 f, S]] w fun x w' => x = .returned (.int .i64 (batChk f ts)) ∧ Below w.heap.size w w' := by
  have HF := hid (foff_any B S ts (w.alloc (bo f S)) (h.below (below1 w _)) hL hl)
  have hB0 := hid (below1 w (bo f S))
  obtain ⟨ao, cap, rfl, hcap, -⟩ := h
  unfold batChk
  clear hL hcap
  by_cases h1 : f < 1
  · rw [if_neg (by omega)]
    go_enter Try.func7, Try.ntmps7
    go_wp2
    go_ret
    exact ⟨rfl, hB0.out⟩
  · have d1 : decide (f < 1) = false := by simp; omega
    by_cases h2 : 281474976710655 < f
    · rw [if_neg (by omega)]
      clear h1
      go_enter Try.func7, Try.ntmps7
      go_wp2
      go_ret
      exact ⟨rfl, hB0.out⟩
    · have d2 : decide (281474976710655 < f) = false := by simp; omega
      by_cases h3 : ts.length < 1
      · rw [if_neg (by omega)]
        have h3' : (ts.length : Int) < 1 := by omega
        clear h1 h2 h3
        go_enter Try.func7, Try.ntmps7
        go_wp2
        go_ret
        exact ⟨rfl, hB0.out⟩
      · have d3 : decide ((ts.length : Int) < 1) = false := by simp; omega
        by_cases h4 : 64 < ts.length
        · rw [if_neg (by omega)]
          have h4' : (64 : Int) < (ts.length : Int) := by omega
          clear h1 h2 h3 h4 d3
          have d3 : decide ((ts.length : Int) < 1) = false := by simp; omega
          go_enter Try.func7, Try.ntmps7
          go_wp2
          go_ret
          exact ⟨rfl, hB0.out⟩
        · have d4 : decide ((64 : Int) < (ts.length : Int)) = false := by simp; omega
          rw [if_pos ⟨by omega, by omega, by omega, by omega⟩]
          have hv1 : wrap64 (f + (ts.length : Int)) = f + ts.length := by unfold wrap64; omega
          have hv2 : wrap64 (f + (ts.length : Int) - 1) = f + ts.length - 1 := by unfold wrap64; omega
          by_cases h5 : f + (ts.length : Int) - 1 ≤ 281474976710655
          · rw [if_pos h5]
            have d5 : decide ((281474976710655 : Int) < f + (ts.length : Int) - 1) = false := by simp; omega
            generalize tsChk ts = R at HF ⊢
            clear h1 h2 h3 h4 h5
            go_enter Try.func7, Try.ntmps7
            go_wp2_with (first
              | (go_at_call 15
                 refine HF.out.mono ?_
                 rintro e w1 ⟨rfl, hb1⟩
                 have H1 := hid (below_on hB0.out hb1)
                 clear hb1))
            go_ret
            exact ⟨rfl, H1.out⟩
          · rw [if_neg h5]
            have h5' : (281474976710655 : Int) < f + (ts.length : Int) - 1 := by omega
            clear h1 h2 h3 h4 h5
            go_enter Try.func7, Try.ntmps7
            go_wp2
            go_ret
            exact ⟨rfl, hB0.out⟩

end Go.Proofs.Ytdnlfacfleemeaa

namespace Go.Proofs.Ytdnlfacfleemeaa
open Go.RowKit Go.Lib

theorem Below.drewN0 (w : World) (n : Nat) : Below w.heap.size w (w.drewN n) := ⟨rfl, rfl, rfl, Nat.le_refl _, fun _ _ => rfl⟩

instance : DecidableEq Vd := fun x y =>
  decidable_of_iff (x.k = y.k ∧ x.i = y.i ∧ x.t = y.t) (by
    obtain ⟨a, b, c⟩ := x
    obtain ⟨a', b', c'⟩ := y
    simp)

instance : DecidableEq Txd := fun x y =>
  decidable_of_iff (x.k = y.k ∧ x.pn = y.pn ∧ x.pa = y.pa ∧ x.xs = y.xs ∧ x.nm = y.nm ∧ x.vs = y.vs) (by
    obtain ⟨a, b, c, d, e, f⟩ := x
    obtain ⟨a', b', c', d', e', f'⟩ := y
    simp)

set_option maxRecDepth 100000 in
theorem vd_neq (x y : Vd) (w : World) : (binOp BinOp.neq 50 (.agg #[.int .i64 x.k, .int .i64 x.i, .string x.t]) (.agg #[.int .i64 y.k, .int .i64 y.i, .string y.t])).run Try.prog w = .ok (.bool (!decide (x = y))) w := by
  obtain ⟨k, i, t⟩ := x
  obtain ⟨k', i', t'⟩ := y
  by_cases h5 : k = k'
  · subst h5
    by_cases h6 : i = i'
    · subst h6
      by_cases h7 : t = t'
      · subst h7; simp [go_sem]
      · have h8 : (t.toList == t'.toList) = false := by
          simp only [beq_eq_false_iff_ne, ne_eq]
          exact fun e => h7 (toList_inj e)
        simp [go_sem, h7, h8]
    · have h8 : (i == i') = false := by simpa using h6
      simp [go_sem, h6, h8]
  · have h8 : (k == k') = false := by simpa using h5
    simp [go_sem, h5, h8]

/-- While two batches are held against one another. -/
structure Sq (w W : World) (f : Int) (S : Value) (f' : Int) (S' : Value) : Prop where
  r0 : W.heap[w.heap.size]? = some (bo f S)
  r1 : W.heap[w.heap.size + 1]? = some (bo f' S')
  hb : Below w.heap.size w W

theorem Sq.below {w W W' : World} {f : Int} {S : Value} {f' : Int} {S' : Value} (h : Sq w W f S f' S') (hb : Below W.heap.size W W') : Sq w W' f S f' S' :=
  ⟨blk_of hb h.r0 (lt_of h.r0), blk_of hb h.r1 (lt_of h.r1), below_on h.hb hb⟩

theorem sq_start (w : World) (f : Int) (S : Value) (f' : Int) (S' : Value) : Sq w ((w.alloc (bo f S)).alloc (bo f' S')) f S f' S' := ⟨two1 w _ _, two2 w _ _, below2 w _ _⟩

/-- And two transactions. -/
structure Sr (w wr W : World) (f : Int) (S : Value) (f' : Int) (S' : Value) (o o' : Obj) : Prop where
  sq : Sq w W f S f' S'
  x0 : W.heap[wr.heap.size]? = some o
  y0 : W.heap[wr.heap.size + 1]? = some o'

theorem Sr.below {w wr W W' : World} {f : Int} {S : Value} {f' : Int} {S' : Value} {o o' : Obj} (h : Sr w wr W f S f' S' o o') (hb : Below W.heap.size W W') : Sr w wr W' f S f' S' o o' :=
  ⟨h.sq.below hb, blk_of hb h.x0 (lt_of h.x0), blk_of hb h.y0 (lt_of h.y0)⟩

theorem sr_start {w wr : World} {f : Int} {S : Value} {f' : Int} {S' : Value} (h : Sq w wr f S f' S') (o o' : Obj) : Sr w wr ((wr.alloc o).alloc o') f S f' S' o o' := ⟨h.below (below2 wr o o'), two1 wr _ _, two2 wr _ _⟩

theorem ne_at {ts ts' : List Txd} {n : Nat} {t t' : Txd} (h : ts[n]? = some t) (h' : ts'[n]? = some t') (hne : t ≠ t') : ts ≠ ts' := by
  intro e
  rw [e, h'] at h
  exact hne (Option.some.inj h).symm

set_option maxRecDepth 100000 in
set_option maxHeartbeats 16000000 in
theorem bsame_any (B B' : Nat) (f : Int) (S : Value) (ts : List Txd) (f' : Int) (S' : Value) (ts' : List Txd) (w : World) (h : TsAt B w S ts) (h' : TsAt B' w S' ts') (hL : ∀ t ∈ ts, TxL t) (hl : ts.length ≤ 1000000000) :
    Calls Try.prog 11 #[.agg #[.int .i64 f, S], .agg #[.int .i64 f', S']] w fun e w' => e = .returned (.bool (decide (f = f' ∧ ts = ts'))) ∧ Below w.heap.size w w' := by
  obtain ⟨ao, c1, rfl, hc1, hx1⟩ := h
  obtain ⟨bo', c2, rfl, hc2, hx2⟩ := h'
  obtain ⟨R, hR⟩ : ∃ R, R = decide (f = f' ∧ ts = ts') := ⟨_, rfl⟩
  rw [← hR]
  have HR := hid hR
  have HX1 := hid hx1
  have HX2 := hid hx2
  have HL := hid hL
  have H0 := hid (sq_start w f (.slice ao ts.length c1) f' (.slice bo' ts'.length c2))
  clear hR hx1 hx2 hL hc1 hc2
  by_cases e1 : f = f'
  · subst e1
    by_cases e3 : ts.length = ts'.length
    · have HLe := hid e3
      have e3' : ((ts.length : Int) == (ts'.length : Int)) = true := by simp [e3]
      have e3n : ((ts.length : Int) != (ts'.length : Int)) = false := by simp [e3]
      have e4 : (ts'.length : Int) ≤ (ts.length : Int) := by omega
      have e5 : (ts.length : Int) ≤ (ts'.length : Int) := by omega
      clear e3
      go_enter Try.func11, Try.ntmps11
      go_wp2
      go_loopw [5] (fun ix wr => ∃ (n : Nat), n ≤ ts.length ∧ ix = .int .i64 n ∧ Hid (Sq w wr f (.slice ao ts.length c1) f (.slice bo' ts'.length c2)) ∧ Hid (ts.take n = ts'.take n)) (fun ix _ => ts.length - (intOf ix).toNat)
      case atStart => exact ⟨0, Nat.zero_le _, rfl, H0, hid (by simp)⟩
      case round =>
        clear H0
        obtain ⟨n, hn, rfl, hS, hpre⟩ := hrel
        obtain ⟨p0, p1, -⟩ := vfacts2 hS.out.r0
        obtain ⟨q0, q1, -⟩ := vfacts2 hS.out.r1
        by_cases hlt : n < ts.length
        · have hlt2 : n < ts'.length := by have := HLe.out; omega
          obtain ⟨t, ht⟩ : ∃ t, ts[n]? = some t := ⟨_, List.getElem?_eq_getElem hlt⟩
          obtain ⟨t', ht'⟩ : ∃ t', ts'[n]? = some t' := ⟨_, List.getElem?_eq_getElem hlt2⟩
          obtain ⟨b, off, rfl, -, hat⟩ := HX1.out (by intro e; rw [e] at hlt; simp at hlt)
          obtain ⟨b', off', rfl, -, hat'⟩ := HX2.out (by intro e; rw [e] at hlt2; simp at hlt2)
          obtain ⟨S1, S2, hc, hS1, hS2⟩ := hat n t ht
          obtain ⟨S1', S2', hc', hS1', hS2'⟩ := hat' n t' ht'
          have hcw := hc.same (hS.out.hb.block b hc.lt)
          have hcw' := hc'.same (hS.out.hb.block b' hc'.lt)
          have hst := takes_step ts ts' n t t' ht ht' hpre.out
          have hlt' : (n : Int) < (ts.length : Int) := by omega
          have hlt2' : (n : Int) < (ts'.length : Int) := by omega
          have HTL := hid (HL.out t (List.mem_of_getElem? ht))
          have HNE := hid (fun hne => ne_at ht ht' hne)
          have HST := hid hst
          obtain ⟨a1, cc1, rfl⟩ := hS1.form
          obtain ⟨a2, cc2, rfl, hcc2, hv2⟩ := hS2
          obtain ⟨a1', cc1', rfl⟩ := hS1'.form
          obtain ⟨a2', cc2', rfl, hcc2', hv2'⟩ := hS2'
          have HV := hid (And.intro hv2 hv2')
          have HCD := hid (And.intro hS1.code hS1'.code)
          have H1 := hid (sr_start hS.out (txo t (.slice a1 t.xs.length cc1) (.slice a2 t.vs.length cc2) 30) (txo t' (.slice a1' t'.xs.length cc1') (.slice a2' t'.vs.length cc2') 30))
          obtain ⟨k, pn, pa, xs, nm, vs⟩ := t
          obtain ⟨k', pn', pa', xs', nm', vs'⟩ := t'
          dsimp only at *
          obtain ⟨d0, d1, d2, d3, d4, d5⟩ := hcw
          obtain ⟨g0, g1, g2, g3, g4, g5⟩ := hcw'
          have m1 := World.new_ne wr ⟨b, off + n * 6, none⟩ d0
          have m2 := World.new_ne wr ⟨b', off' + n * 6, none⟩ g0
          have m3 : b' < wr.heap.size := World.block_lt_of_cell? wr _ g0
          have m4 : w.heap.size < wr.heap.size := lt_of hS.out.r0
          have m5 : w.heap.size + 1 < wr.heap.size := lt_of hS.out.r1
          clear hat hat' ht ht' hc hc' hS1 hS1' hv2 hv2' hst hcc2 hcc2'
          by_cases x1 : k = k'
          · subst x1
            by_cases x2 : nm = nm'
            · subst x2
              by_cases x3 : vs.length = vs'.length
              · have HV3 := hid x3
                have x3' : ((vs.length : Int) == (vs'.length : Int)) = true := by simp [x3]
                have x3n : ((vs.length : Int) != (vs'.length : Int)) = false := by simp [x3]
                have x4 : (vs'.length : Int) ≤ (vs.length : Int) := by omega
                have x5 : (vs.length : Int) ≤ (vs'.length : Int) := by omega
                clear x3
                have HSM := hid (fun W (hb : Below w.heap.size w W) => same_any pn pa _ xs pn' pa' _ xs' W (HCD.out.1.below hb) (HCD.out.2.below hb) HTL.out.1)
                by_cases x6 : pn = pn' ∧ pa = pa' ∧ xs = xs'
                · obtain ⟨x6, x7, x8⟩ := x6
                  subst x6 x7 x8
                  rw [show sameB pn pa xs pn pa xs = true by simp [sameB]] at HSM
                  go_wp2_with (first
                    | (go_at_call 23
                       refine (HSM.out _ H1.out.sq.hb).mono ?_
                       rintro e w5 ⟨rfl, hb5⟩
                       have H5 := hid (H1.out.below hb5)
                       clear hb5))
                  clear H1 d0 d1 d2 d3 d4 d5 g0 g1 g2 g3 g4 g5 m1 m2 m3 p0 p1 q0 q1 HSM
                  go_loopw [8] (fun iy wz => ∃ (m : Nat), m ≤ vs.length ∧ iy = .int .i64 m ∧ Hid (Sr w wr wz f (.slice (some ⟨b, off, none⟩) ts.length c1) f (.slice (some ⟨b', off', none⟩) ts'.length c2) (txo ⟨k, pn, pa, xs, nm, vs⟩ (.slice a1 xs.length cc1) (.slice a2 vs.length cc2) 30) (txo ⟨k, pn, pa, xs, nm, vs'⟩ (.slice a1' xs.length cc1') (.slice a2' vs'.length cc2') 30)) ∧ Hid (vs.take m = vs'.take m)) (fun iy _ => vs.length - (intOf iy).toNat)
                  case atStart => exact ⟨0, Nat.zero_le _, rfl, H5, hid (by simp)⟩
                  case round =>
                    rename World => wz
                    clear H5
                    obtain ⟨m, hm, rfl, hS2, hpre2⟩ := hrel
                    have hml := HTL.out.2
                    dsimp only at hml
                    obtain ⟨p0, p1, p2, p3, p4, p5, -⟩ := vfacts6 hS2.out.x0
                    obtain ⟨q0, q1, q2, q3, q4, q5, -⟩ := vfacts6 hS2.out.y0
                    by_cases hlt3 : m < vs.length
                    · have hlt4 : m < vs'.length := by have := HV3.out; omega
                      obtain ⟨v, hv⟩ : ∃ v, vs[m]? = some v := ⟨_, List.getElem?_eq_getElem hlt3⟩
                      obtain ⟨v', hv'⟩ : ∃ v', vs'[m]? = some v' := ⟨_, List.getElem?_eq_getElem hlt4⟩
                      obtain ⟨b3, off3, rfl, -, hat3⟩ := HV.out.1 (by intro e; rw [e] at hlt3; simp at hlt3)
                      obtain ⟨b4, off4, rfl, -, hat4⟩ := HV.out.2 (by intro e; rw [e] at hlt4; simp at hlt4)
                      have hd3 := hat3 m v hv
                      have hd4 := hat4 m v' hv'
                      obtain ⟨d0, d1, d2⟩ := hd3.same (hS2.out.sq.hb.block b3 hd3.lt)
                      obtain ⟨g0, g1, g2⟩ := hd4.same (hS2.out.sq.hb.block b4 hd4.lt)
                      have hst2 := takes_step vs vs' m v v' hv hv' hpre2.out
                      have hlt3' : (m : Int) < (vs.length : Int) := by omega
                      have hlt4' : (m : Int) < (vs'.length : Int) := by omega
                      have hne := vd_neq v v'
                      have HVV := hid (And.intro hv hv')
                      have HST2 := hid hst2
                      clear hat3 hat4 hd3 hd4 hv hv' hst2
                      by_cases hvv : v = v'
                      · have HT := hid (HST2.out hvv)
                        have hvv' : decide (v = v') = true := by simpa using hvv
                        rw [hvv', Bool.not_true] at hne
                        clear hvv hvv'
                        go_wp2
                        go_quiet (fail)
                        go_wp2
                        go_roundw
                        case rel => first | exact ⟨m + 1, by omega, by go_num, hid (hS2.out.below (Below.drewN0 _ _)), HT⟩ | ((repeat apply Exists.intro); exact ⟨⟨m + 1, by omega, by go_num, hid (hS2.out.below (Below.drewN0 _ _)), HT⟩, rfl⟩)
                        case measure => simp [intOf]; omega
                      · have Hr : Hid (R = false) := hid (by
                          rw [HR.out]
                          simp only [decide_eq_false_iff_not, not_and]
                          intro _
                          refine HNE.out (fun e => hvv ?_)
                          injection e with e1 e2 e3 e4 e5 e6
                          have := HVV.out
                          rw [e6] at this
                          rw [this.1] at this
                          exact Option.some.inj this.2)
                        have hvv' : decide (v = v') = false := by simpa using hvv
                        rw [hvv', Bool.not_false] at hne
                        clear hvv hvv'
                        go_wp2
                        go_quiet (fail)
                        go_wp2
                        go_ret
                        exact ⟨by rw [Hr.out]; rfl, (hS2.out.below (Below.drewN0 _ _)).sq.hb⟩
                    · have Hvs : Hid (vs = vs') := hid (by
                        have := hpre2.out
                        rwa [List.take_of_length_le (by omega), List.take_of_length_le (by have := HV3.out; omega)] at this)
                      have HT := hid (HST.out (by rw [Hvs.out]))
                      have hd9 : decide ((m : Int) < (vs.length : Int)) = false := by simp; omega
                      go_wp2
                      go_roundw
                      case rel => exact ⟨n + 1, by omega, by go_num, hid hS2.out.sq, HT⟩
                      case measure => simp [intOf]; omega
                · have Hr : Hid (R = false) := hid (by
                    rw [HR.out]
                    simp only [decide_eq_false_iff_not, not_and]
                    intro _
                    refine HNE.out (fun e => x6 ?_)
                    injection e with e1 e2 e3 e4 e5 e6
                    exact ⟨e2, e3, e4⟩)
                  rw [show sameB pn pa xs pn' pa' xs' = false by simp only [sameB, decide_eq_false_iff_not]; exact x6] at HSM
                  clear x6
                  go_wp2_with (first
                    | (go_at_call 23
                       refine (HSM.out _ H1.out.sq.hb).mono ?_
                       rintro e w5 ⟨rfl, hb5⟩
                       have H5 := hid (below_on H1.out.sq.hb hb5)
                       clear hb5))
                  go_ret
                  exact ⟨by rw [Hr.out]; rfl, H5.out⟩
              · have Hr : Hid (R = false) := hid (by
                  rw [HR.out]
                  simp only [decide_eq_false_iff_not, not_and]
                  intro _
                  refine HNE.out (fun e => x3 ?_)
                  injection e with e1 e2 e3 e4 e5 e6
                  rw [e6])
                have x3' : ((vs.length : Int) == (vs'.length : Int)) = false := by simp; omega
                have x3n : ((vs.length : Int) != (vs'.length : Int)) = true := by simp; omega
                clear x3
                go_wp2
                go_ret
                exact ⟨by rw [Hr.out]; rfl, H1.out.sq.hb⟩
            · have Hr : Hid (R = false) := hid (by
                rw [HR.out]
                simp only [decide_eq_false_iff_not, not_and]
                intro _
                refine HNE.out (fun e => x2 ?_)
                injection e)
              have x2' : (nm.toList == nm'.toList) = false := by
                simp only [beq_eq_false_iff_ne, ne_eq]
                exact fun e => x2 (toList_inj e)
              have x2'' : (nm == nm') = false := by rw [beq_toListBytes]; exact x2'
              clear x2
              go_wp2
              go_ret
              exact ⟨by rw [Hr.out]; rfl, H1.out.sq.hb⟩
          · have Hr : Hid (R = false) := hid (by
              rw [HR.out]
              simp only [decide_eq_false_iff_not, not_and]
              intro _
              refine HNE.out (fun e => x1 ?_)
              injection e)
            have x1' : (k == k') = false := by simpa using x1
            have x1n : (k != k') = true := by simpa using x1
            clear x1
            go_wp2
            go_ret
            exact ⟨by rw [Hr.out]; rfl, H1.out.sq.hb⟩
        · have Hr : Hid (R = true) := hid (by
            rw [HR.out]
            simp only [decide_eq_true_eq]
            refine ⟨trivial, ?_⟩
            have := hpre.out
            rwa [List.take_of_length_le (by omega), List.take_of_length_le (by have := HLe.out; omega)] at this)
          go_wp2
          go_ret
          exact ⟨by rw [Hr.out]; rfl, hS.out.hb⟩
    · have Hr : Hid (R = false) := hid (by
        rw [HR.out]
        simp only [decide_eq_false_iff_not]
        rintro ⟨_, e⟩
        exact e3 (by rw [e]))
      have e3' : ((ts.length : Int) == (ts'.length : Int)) = false := by simp; omega
      have e3n : ((ts.length : Int) != (ts'.length : Int)) = true := by simp; omega
      clear e3
      go_enter Try.func11, Try.ntmps11
      go_wp2
      go_ret
      exact ⟨by rw [Hr.out]; rfl, H0.out.hb⟩
  · have Hr : Hid (R = false) := hid (by
      rw [HR.out]
      simp only [decide_eq_false_iff_not]
      rintro ⟨e, _⟩
      exact e1 e)
    have e1' : (f == f') = false := by simpa using e1
    have e1n : (f != f') = true := by simpa using e1
    clear e1
    go_enter Try.func11, Try.ntmps11
    go_wp2
    go_ret
    exact ⟨by rw [Hr.out]; rfl, H0.out.hb⟩

end Go.Proofs.Ytdnlfacfleemeaa
