import Derived.Test.YtdnlfacfleemeaaK13
import Derived.Lib.SmallJoins
import Derived.Test.YtdnlfacfleemeaaK05
import Derived.Test.YtdnlfacfleemeaaK01
import Derived.Test.YtdnlfacfleemeaaK02
import Derived.Laws.AppendOwnNone
import Derived.Test.YtdnlfacfleemeaaK11
import Derived.Deep.Cut
namespace Go.Proofs.Ytdnlfacfleemeaa
open Go.RowKit Go.Lib

instance : DecidableEq Ins := fun x y =>
  decidable_of_iff (x.op = y.op ∧ x.a = y.a ∧ x.b = y.b ∧ x.c = y.c ∧ x.n = y.n ∧ x.k = y.k ∧ x.i = y.i ∧ x.t = y.t) (by
    obtain ⟨o, a, b, c, n, k, i, t⟩ := x
    obtain ⟨o', a', b', c', n', k', i', t'⟩ := y
    simp)

set_option maxRecDepth 100000 in
theorem ins_neq (x y : Ins) (w : World) : (binOp BinOp.neq 52 x.val y.val).run Try.prog w = .ok (.bool (!decide (x = y))) w := by
  obtain ⟨o, a, b, c, n, k, i, t⟩ := x
  obtain ⟨o', a', b', c', n', k', i', t'⟩ := y
  by_cases h0 : o = o'
  · subst h0
    by_cases h1 : a = a'
    · subst h1
      by_cases h2 : b = b'
      · subst h2
        by_cases h3 : c = c'
        · subst h3
          by_cases h4 : n = n'
          · subst h4
            by_cases h5 : k = k'
            · subst h5
              by_cases h6 : i = i'
              · subst h6
                by_cases h7 : t = t'
                · subst h7; simp [Ins.val, go_sem]
                · have h8 : (t.toList == t'.toList) = false := by
                    simp only [beq_eq_false_iff_ne, ne_eq]
                    exact fun e => h7 (toList_inj e)
                  simp [Ins.val, go_sem, h7, h8]
              · have h8 : (i == i') = false := by simpa using h6
                simp [Ins.val, go_sem, h6, h8]
            · have h8 : (k == k') = false := by simpa using h5
              simp [Ins.val, go_sem, h5, h8]
          · have h8 : (n == n') = false := by simpa using h4
            simp [Ins.val, go_sem, h4, h8]
        · have h8 : (c == c') = false := by simpa using h3
          simp [Ins.val, go_sem, h3, h8]
      · have h8 : (b == b') = false := by simpa using h2
        simp [Ins.val, go_sem, h2, h8]
    · have h8 : (a == a') = false := by simpa using h1
      simp [Ins.val, go_sem, h1, h8]
  · have h8 : (o == o') = false := by simpa using h0
    simp [Ins.val, go_sem, h0, h8]

/-- Two procedures. -/
def sameB (n1 : ByteArray) (a1 : Int) (xs : List Ins) (n2 : ByteArray) (a2 : Int) (ys : List Ins) : Bool := decide (n1 = n2 ∧ a1 = a2 ∧ xs = ys)

/-- While two are held against one another. -/
structure Sms (w W : World) (n1 : ByteArray) (a1 : Int) (S1 : Value) (n2 : ByteArray) (a2 : Int) (S2 : Value) : Prop where
  r0 : W.heap[w.heap.size]? = some (po n1 a1 S1)
  r1 : W.heap[w.heap.size + 1]? = some (po n2 a2 S2)
  hb : Below w.heap.size w W

theorem sms_start (w : World) (n1 : ByteArray) (a1 : Int) (S1 : Value) (n2 : ByteArray) (a2 : Int) (S2 : Value) : Sms w ((w.alloc (po n1 a1 S1)).alloc (po n2 a2 S2)) n1 a1 S1 n2 a2 S2 := ⟨two1 w _ _, two2 w _ _, below2 w _ _⟩

theorem Sms.drewN {w W : World} {n1 : ByteArray} {a1 : Int} {S1 : Value} {n2 : ByteArray} {a2 : Int} {S2 : Value} (h : Sms w W n1 a1 S1 n2 a2 S2) (m : Nat) : Sms w (W.drewN m) n1 a1 S1 n2 a2 S2 :=
  ⟨h.r0, h.r1, ⟨h.hb.os, h.hb.tape, h.hb.output, h.hb.size, h.hb.block⟩⟩

theorem takes_step {α : Type} (xs ys : List α) (k : Nat) (x y : α) (hx : xs[k]? = some x) (hy : ys[k]? = some y) (h : xs.take k = ys.take k) : x = y → xs.take (k + 1) = ys.take (k + 1) := by
  intro e
  rw [List.take_add_one, List.take_add_one, hx, hy, h, e]

set_option maxRecDepth 100000 in
set_option maxHeartbeats 4000000 in
theorem same_any (n1 : ByteArray) (a1 : Int) (S1 : Value) (xs : List Ins) (n2 : ByteArray) (a2 : Int) (S2 : Value) (ys : List Ins) (w : World) (h1 : CodeAt w S1 xs) (h2 : CodeAt w S2 ys) (hl : xs.length ≤ 1000000000) :
    Calls Try.prog 23 #[.agg #[.string n1, .int .i64 a1, S1], .agg #[.string n2, .int .i64 a2, S2]] w fun e w' => e = .returned (.bool (sameB n1 a1 xs n2 a2 ys)) ∧ Below w.heap.size w w' := by
  obtain ⟨ao, c1, rfl, hc1, hx1⟩ := h1
  obtain ⟨bo, c2, rfl, hc2, hx2⟩ := h2
  obtain ⟨R, hR⟩ : ∃ R, R = sameB n1 a1 xs n2 a2 ys := ⟨_, rfl⟩
  rw [← hR]
  have HR := hid hR
  have HX1 := hid hx1
  have HX2 := hid hx2
  have H0 := hid (sms_start w n1 a1 (.slice ao xs.length c1) n2 a2 (.slice bo ys.length c2))
  clear hR hx1 hx2
  by_cases e1 : n1 = n2
  · subst e1
    by_cases e2 : a1 = a2
    · subst e2
      by_cases e3 : xs.length = ys.length
      · have HL := hid e3
        have e3' : ((xs.length : Int) == (ys.length : Int)) = true := by simp [e3]
        have e4 : (ys.length : Int) ≤ (xs.length : Int) := by omega
        have e5 : (xs.length : Int) ≤ (ys.length : Int) := by omega
        clear e3
        go_enter Try.func23, Try.ntmps23
        go_wp2
        go_loopw [5] (fun ix wr => ∃ (k : Nat), k ≤ xs.length ∧ ix = .int .i64 k ∧ Hid (Sms w wr n1 a1 (.slice ao xs.length c1) n1 a1 (.slice bo ys.length c2)) ∧ Hid (xs.take k = ys.take k)) (fun ix _ => xs.length - (intOf ix).toNat)
        case atStart => exact ⟨0, Nat.zero_le _, rfl, H0, hid (by simp)⟩
        case round =>
          clear H0
          obtain ⟨k, hk, rfl, hS, hpre⟩ := hrel
          obtain ⟨p0, p1, p2, -⟩ := vfacts hS.out.r0
          obtain ⟨q0, q1, q2, -⟩ := vfacts hS.out.r1
          by_cases hlt : k < xs.length
          · have hlt2 : k < ys.length := by have := HL.out; omega
            obtain ⟨x, hx⟩ : ∃ x, xs[k]? = some x := ⟨_, List.getElem?_eq_getElem hlt⟩
            obtain ⟨y, hy⟩ : ∃ y, ys[k]? = some y := ⟨_, List.getElem?_eq_getElem hlt2⟩
            obtain ⟨b, off, rfl, hat⟩ := HX1.out (by intro e; rw [e] at hlt; simp at hlt)
            obtain ⟨b', off', rfl, hat'⟩ := HX2.out (by intro e; rw [e] at hlt2; simp at hlt2)
            have hat := hat k x hx
            have hat' := hat' k y hy
            obtain ⟨c0, c1', c2', c3, c4, c5, c6, c7⟩ := hat.same (hS.out.hb.block b hat.lt)
            obtain ⟨d0, d1, d2, d3, d4, d5, d6, d7⟩ := hat'.same (hS.out.hb.block b' hat'.lt)
            have hst := takes_step xs ys k x y hx hy hpre.out
            have hlt' : (k : Int) < (xs.length : Int) := by omega
            have hlt2' : (k : Int) < (ys.length : Int) := by omega
            have hne := ins_neq x y
            unfold Ins.val at hne
            have HXY := hid (And.intro hx hy)
            have HST := hid hst
            clear hat hat' hx hy hst
            by_cases hxy : x = y
            · have HT := hid (HST.out hxy)
              have hxy' : decide (x = y) = true := by simpa using hxy
              rw [hxy', Bool.not_true] at hne
              clear hxy hxy'
              go_wp2
              go_quiet (fail)
              go_wp2
              go_roundw
              case rel => first | exact ⟨k + 1, by omega, by go_num, hid (hS.out.drewN _), HT⟩ | ((repeat apply Exists.intro); exact ⟨⟨k + 1, by omega, by go_num, hid (hS.out.drewN _), HT⟩, rfl⟩)
              case measure => simp [intOf]; omega
            · have hxy' : decide (x = y) = false := by simpa using hxy
              rw [hxy', Bool.not_false] at hne
              have Hr : Hid (R = false) := hid (by
                rw [HR.out]
                simp only [sameB, decide_eq_false_iff_not]
                rintro ⟨_, _, e⟩
                have := HXY.out
                rw [e] at this
                rw [this.1] at this
                exact hxy (Option.some.inj this.2))
              clear hxy hxy'
              go_wp2
              go_quiet (fail)
              go_wp2
              go_ret
              exact ⟨by rw [Hr.out]; rfl, (hS.out.drewN _).hb⟩
          · have Hr : Hid (R = true) := hid (by
              rw [HR.out]
              simp only [sameB, decide_eq_true_eq]
              refine ⟨trivial, trivial, ?_⟩
              have := hpre.out
              rwa [List.take_of_length_le (by omega), List.take_of_length_le (by have := HL.out; omega)] at this)
            go_wp2
            go_ret
            exact ⟨by rw [Hr.out]; rfl, hS.out.hb⟩
      · have Hr : Hid (R = false) := hid (by
          rw [HR.out]
          simp only [sameB, decide_eq_false_iff_not]
          rintro ⟨_, _, e⟩
          exact e3 (by rw [e]))
        have e3' : ((xs.length : Int) == (ys.length : Int)) = false := by simp; omega
        clear e3
        go_enter Try.func23, Try.ntmps23
        go_wp2
        go_ret
        exact ⟨by rw [Hr.out]; rfl, H0.out.hb⟩
    · have Hr : Hid (R = false) := hid (by
        rw [HR.out]
        simp only [sameB, decide_eq_false_iff_not]
        rintro ⟨_, e, _⟩
        exact e2 e)
      have e2' : (a1 == a2) = false := by simpa using e2
      clear e2
      go_enter Try.func23, Try.ntmps23
      go_wp2
      go_ret
      exact ⟨by rw [Hr.out]; rfl, H0.out.hb⟩
  · have Hr : Hid (R = false) := hid (by
      rw [HR.out]
      simp only [sameB, decide_eq_false_iff_not]
      rintro ⟨e, _, _⟩
      exact e1 e)
    have e1' : (n1.toList == n2.toList) = false := by
      simp only [beq_eq_false_iff_ne, ne_eq]
      exact fun e => e1 (toList_inj e)
    have e1'' : (n1 == n2) = false := by rw [beq_toListBytes]; exact e1'
    clear e1
    go_enter Try.func23, Try.ntmps23
    go_wp2
    go_ret
    exact ⟨by rw [Hr.out]; rfl, H0.out.hb⟩

end Go.Proofs.Ytdnlfacfleemeaa

namespace Go.Proofs.Ytdnlfacfleemeaa
open Go.RowKit Go.Lib

/-- The chapter's procedure. -/
def put2 : ByteArray := ⟨#[112, 117, 116, 50]⟩
def kCode : List Ins := [⟨2, 0, 0, 0, 0, 0, 0, emp⟩, ⟨2, 1, 0, 0, 1, 0, 0, emp⟩, ⟨4, 0, 1, 0, 0, 0, 0, emp⟩, ⟨16, 0, 0, 0, 0, 0, 0, emp⟩]
def kBytes : List Int := [4, 112, 117, 116, 50, 2, 4, 2, 0, 0, 2, 1, 1, 4, 0, 1, 16]

theorem k_chk : procChk put2 2 kCode = (0, 0) := by
  have e : nameB put2 = true := by decide
  simp [procChk, e, withinB, kCode, codeChk, insErr, opErr, opF, opN, chkF, Fk.fits, Fk.get, Fk.set, wrap64, chk]
theorem k_none : procChk emp 0 [] = (-1, 5) := by decide
theorem k_bytes : procB put2 2 kCode = kBytes := by decide
theorem k_tk : tkProc kBytes = .ok ([112, 117, 116, 50], 2, kCode) := by kernel_rfl

theorem k_dec : decP kBytes = .ok ([112, 117, 116, 50], 2, kCode) := by
  rw [decP, k_tk]
  have e : mkStr [112, 117, 116, 50] = put2 := rfl
  simp [e, k_chk]

theorem k_oct : Oct kBytes := by
  intro x hx
  simp only [kBytes, List.mem_cons, List.mem_nil_iff, or_false] at hx
  omega

abbrev kCells : Array Value := (kCode.flatMap Ins.cells).toArray

theorem code_of_block {w : World} {b : Nat} {xs : List Ins} (h : w.heap[b]? = some (.cells (xs.flatMap Ins.cells).toArray 52 (0, 0))) : CodeAt w (.slice (some ⟨b, 0, none⟩) xs.length xs.length) xs := by
  refine ⟨_, _, rfl, Nat.le_refl _, fun _ => ⟨b, 0, rfl, fun j x hx => ?_⟩⟩
  have key : ∀ (xs : List Ins) (j : Nat) (x : Ins), xs[j]? = some x → ∀ m, m < 8 → (xs.flatMap Ins.cells)[j * 8 + m]? = x.cells[m]? := by
    intro xs
    induction xs with
    | nil => intro j x hx; simp at hx
    | cons y xs ih =>
      intro j x hx m hm
      rw [List.flatMap_cons]
      cases j with
      | zero =>
        simp at hx
        subst hx
        rw [List.getElem?_append_left (by simp [Ins.cells]; omega)]
        simp
      | succ j =>
        rw [List.getElem?_append_right (by simp [Ins.cells]; omega)]
        have := ih j x (by simpa using hx) m hm
        rw [← this]
        congr 1
        simp [Ins.cells]
        omega
  have hc : ∀ m, m < 8 → w.cell? ⟨b, 0 + j * 8 + m, none⟩ = x.cells[m]? := by
    intro m hm
    rw [cell_of_row w _ _ _ _ _ h, Nat.zero_add]
    simpa using key xs j x hx m hm
  exact ⟨hc 0 (by decide), hc 1 (by decide), hc 2 (by decide), hc 3 (by decide), hc 4 (by decide), hc 5 (by decide), hc 6 (by decide), hc 7 (by decide)⟩

theorem k_ok : ∀ x ∈ kCode, InsOk x := by
  intro x hx
  simp only [kCode, List.mem_cons, List.mem_nil_iff, or_false] at hx
  rcases hx with rfl | rfl | rfl | rfl <;> exact ⟨by decide, by decide⟩

/-- While the known answers are asked. -/
structure Kst (w W : World) : Prop where
  b0 : W.heap[w.heap.size]? = some (.cells kCells 52 (0, 0))
  b1 : W.heap[w.heap.size + 1]? = some (po put2 2 (.slice (some ⟨w.heap.size, 0, none⟩) 4 4))
  hb : Below w.heap.size w W

theorem Kst.below {w W W' : World} (h : Kst w W) (hb : Below W.heap.size W W') : Kst w W' := ⟨blk_of hb h.b0 (lt_of h.b0), blk_of hb h.b1 (lt_of h.b1), below_on h.hb hb⟩

theorem kst_start (w : World) : Kst w ((w.alloc (.cells kCells 52)).alloc (po put2 2 (.slice (some ⟨w.heap.size, 0, none⟩) 4 4))) := ⟨two1 w _ _, two2 w _ _, below2 w _ _⟩

theorem Kst.code {w W : World} (h : Kst w W) : CodeAt W (.slice (some ⟨w.heap.size, 0, none⟩) 4 4) kCode := code_of_block h.b0

abbrev kArr : Array Value := #[.int .u8 4, .int .u8 112, .int .u8 117, .int .u8 116, .int .u8 50, .int .u8 2, .int .u8 4, .int .u8 2, .int .u8 0, .int .u8 0, .int .u8 2, .int .u8 1, .int .u8 1, .int .u8 4, .int .u8 0, .int .u8 1, .int .u8 16]

theorem conv38 (w : World) : (convert 34 34 (.slice (some ⟨w.heap.size, 0, none⟩) 17 17)).run Try.prog (w.alloc (.cells kArr 5)) = .ok (.slice (some ⟨w.heap.size, 0, none⟩) 17 17) (w.alloc (.cells kArr 5 (17, 18))) :=
  Go.Joins.run_convert_bytes_const_at w 34 5 kArr 17 17 w.heap.size rfl Try.underlying34 Try.underlying5

theorem sl_kArr (w : World) : Sl (w.alloc (.cells kArr 5 (17, 18))) (.slice (some ⟨w.heap.size, 0, none⟩) 17 17) kBytes := by
  refine ⟨_, _, rfl, Nat.le_refl _, fun _ => ⟨_, _, rfl, fun j x hx => ?_⟩⟩
  rw [Nat.zero_add, World.cell?_alloc_mark]
  have hj : j < 17 := (List.getElem?_eq_some_iff.1 hx).1
  have : (kArr : Array Value)[j]? = (kBytes.map (Value.int .u8))[j]? := by
    rcases (show j = 0 ∨ j = 1 ∨ j = 2 ∨ j = 3 ∨ j = 4 ∨ j = 5 ∨ j = 6 ∨ j = 7 ∨ j = 8 ∨ j = 9 ∨ j = 10 ∨ j = 11 ∨ j = 12 ∨ j = 13 ∨ j = 14 ∨ j = 15 ∨ j = 16 by omega) with
      rfl | rfl | rfl | rfl | rfl | rfl | rfl | rfl | rfl | rfl | rfl | rfl | rfl | rfl | rfl | rfl | rfl <;> rfl
  rw [this, List.getElem?_map, hx]
  rfl

theorem kfin {w w3 w4 : World} {g2 cb : Nat} {o : Obj} (h : Kst w w3 ∧ Own w3 g2 kBytes ∧ (∃ cs, w3.heap[cb]? = some (.cells cs 52 (0, 0))) ∧ ∀ (j : Nat) (x : Ins), kCode[j]? = some x → InsAt w3 cb (j * 8) x)
    (hb : Below (w3.alloc o).heap.size (w3.alloc o) w4) : Kst w w4 ∧ w4.heap[w3.heap.size]? = some o ∧ Own w4 g2 kBytes ∧ CodeAt w4 (.slice (some ⟨cb, 0, none⟩) 4 4) kCode := by
  have hb' := below_on (below1 w3 o) hb
  obtain ⟨h1, h2, ⟨cs, h3⟩, h4⟩ := h
  exact ⟨h1.below hb', blk_of hb (heap_alloc_new w3 o) (by simp), blk_of hb' h2 (lt_of h2), _, _, rfl, Nat.le_refl _, fun _ => ⟨cb, 0, rfl, fun j x hx => by rw [Nat.zero_add]; exact (h4 j x hx).same (hb'.block cb (lt_of h3))⟩⟩

end Go.Proofs.Ytdnlfacfleemeaa

namespace Go.Proofs.Ytdnlfacfleemeaa
open Go.RowKit

/-- A slice of bytes, nil or with an address. -/
def Sn (w : World) (v : Value) (bs : List Int) : Prop := Sl w v bs ∧ (v = .slice none 0 0 ∨ ∃ a n c, v = .slice (some a) n c)

theorem sn_nil (w : World) : Sn w (.slice none 0 0) [] := ⟨⟨none, 0, rfl, Nat.le_refl _, fun h => absurd rfl h⟩, .inl rfl⟩

theorem sn_of_owns {w : World} {B : Nat} {v : Value} {bs : List Int} {n : Nat} (h : w.ownsRow B 5 1 v n (B8 bs)) : Sn w v bs := by
  refine ⟨sl_of_owns h, ?_⟩
  rcases h.2 with ⟨rfl, _⟩ | ⟨g, cap, cur, rfl, _⟩
  · exact .inl rfl
  · exact .inr ⟨_, _, _, rfl⟩

theorem Sn.kept {w w' : World} {v : Value} {bs : List Int} {S : Nat → Prop} (h : Sn w v bs) (hk : Kept S w w') (hn : ∀ k, v.ownBlock = some k → ¬ S k) : Sn w' v bs := ⟨h.1.kept hk hn, h.2⟩
theorem Sn.below {w w' : World} {v : Value} {bs : List Int} (h : Sn w v bs) (hk : Below w.heap.size w w') : Sn w' v bs := ⟨h.1.below hk, h.2⟩
theorem Sn.alloc {w : World} {v : Value} {bs : List Int} (h : Sn w v bs) (o : Obj) : Sn (w.alloc o) v bs := h.below ((Below.refl _ _).alloc (Nat.le_refl _) o)

set_option maxRecDepth 100000 in
theorem append_sn (w : World) (ty : TypeId) (B : Nat) (v : Value) (n : Nat) (xs : List Int) (hown : w.ownsRow B 5 1 v n (B8 xs)) (sv : Value) (ys : List Int) (hsn : Sn w sv ys) (hl : n + ys.length ≤ 100000000000) (hbase : B ≤ w.heap.size) :
    ∃ v' w', (Builtin.append_ #[34, 34] ty #[v, sv]).run Try.prog w = .ok v' w' ∧ w'.ownsRow B 5 1 v' (n + ys.length) (B8 (xs ++ ys)) ∧ w.grownBy w' v.ownBlock ∧ (v'.ownBlock = v.ownBlock ∨ v'.ownBlock = some w.heap.size) := by
  obtain ⟨i0, hi, hz0, hz1, hz2⟩ := info_parts Try.info5
  obtain ⟨⟨ao, cap, rfl, hc, hx⟩, hsh⟩ := hsn
  rcases hsh with hsh | ⟨a, m, c, hsh⟩
  · injection hsh with h1 h2 h3
    have hy : ys = [] := List.eq_nil_of_length_eq_zero h2
    subst hy
    subst h1 h3
    refine ⟨v, w, run_append_owned_none (P := Try.prog) (w := w) B 34 ty 5 i0 1 Try.underlying34 hi v n (B8 xs) hown, by simpa using hown, ⟨rfl, rfl, rfl, Nat.le_refl _, fun _ _ _ => rfl⟩, .inl rfl⟩
  · injection hsh with h1 h2 h3
    subst h1 h2 h3
    obtain ⟨v', w', hr, q1, q2, _, q4⟩ := run_append_own_at (P := Try.prog) w B 34 ty 5 i0 (.int .u8 0) 1 1 Try.underlying34 hi hz0 hz1 hz2 rfl (by omega) v n (B8 xs) hown a ys.length cap (B8 ys) (by simp) (by
      intro j u hu
      rw [List.getElem?_map, Option.map_eq_some_iff] at hu
      obtain ⟨y, hy, rfl⟩ := hu
      obtain ⟨b, off, e, hj⟩ := hx (by intro e; subst e; simp at hy)
      injection e with e
      subst e
      rw [add_lit]
      exact hj j y hy) (by intro u hu; obtain ⟨_, _, rfl⟩ := List.mem_map.1 hu; rfl) (by unfold maxLen; omega) (by omega) hbase
    exact ⟨v', w', hr, by simpa using q1, q2, q4⟩

theorem wpList_append_sn (w : World) {ops : Array Oper} {rest : List Oper} {o : Oper} {a : Act} {Q : Exit → Act → World → Prop} (hgd : o.guard = none) (s x : Operand)
    (ho : o.op = .call { callee := .builtin .append, args := #[s, x], argTypes := #[34, 34] }) (B : Nat) (v : Value) (n : Nat) (xs : List Int) (hs : a.eval s = v) (hown : w.ownsRow B 5 1 v n (B8 xs))
    (sv : Value) (ys : List Int) (hx : a.eval x = sv) (hsn : Sn w sv ys) (hl : n + ys.length ≤ 100000000000) (hbase : B ≤ w.heap.size)
    (h : ∀ ao c w', w'.ownsRow B 5 1 (.slice ao (n + ys.length) c) (n + ys.length) (B8 (xs ++ ys)) → w.grownBy w' v.ownBlock → wpList Try.prog ops Q rest (a.put o.dst (.slice ao (n + ys.length) c)) w') : wpList Try.prog ops Q (o :: rest) a w := by
  refine wpList_plain hgd fun K hK => ?_
  obtain ⟨v', w', hr, h2, h3, _⟩ := append_sn w o.type B v n xs hown sv ys hsn hl hbase
  obtain ⟨ao, c, rfl⟩ : ∃ ao c, v' = .slice ao (n + ys.length) c := by
    rcases h2.2 with ⟨e1, e2⟩ | ⟨g, cap, cur, e1, _⟩
    · exact ⟨none, 0, by rw [e1, e2]⟩
    · exact ⟨_, _, e1⟩
  unfold Oper.wp execOp
  simp only [ho, resolve, invoke, builtin, Sem.run_bind, Sem.run_pure, Result.andThen_ok, List.map_toArray, List.map_cons, List.map_nil, hs, hx, hr]
  exact hK _ _ (h ao c w' h2 h3)

end Go.Proofs.Ytdnlfacfleemeaa

namespace Go.Proofs.Ytdnlfacfleemeaa
open Go.RowKit Go.Lib

theorem tkFs_err (bs : List Int) : ∀ (fs : List Fk) (x : Ins) (a : Nat) (E : Int), tkFs bs fs x a = .error E → E ≠ 0 := by
  intro fs
  induction fs with
  | nil => intro x a E h; rw [tkFs] at h; cases h
  | cons f fs ih =>
    intro x a E h
    rw [tkFs] at h
    by_cases h0 : (tkf f bs a).2.2 = 0
    · rw [if_pos h0] at h; exact ih _ _ _ h
    · rw [if_neg h0] at h; injection h with h; rw [← h]; exact h0

theorem tkVal_err (bs : List Int) (most : Int) (a : Nat) (E : Int) (h : tkVal bs most a = .error E) : E ≠ 0 := by
  unfold tkVal at h
  split at h
  · split at h
    · cases h
    · rename_i h0; injection h with h; rw [← h]; exact h0
  · rename_i h0; injection h with h; rw [← h]; exact h0

theorem tkIns_err (bs : List Int) (most : Int) (a : Nat) (E : Int) (h : tkIns bs most a = .error E) : E ≠ 0 := by
  unfold tkIns at h
  split at h
  · split at h
    · cases hT : tkFs bs (opF (opN (takeZ 0 1 bs a 0).1.1)) (zIns (takeZ 0 1 bs a 0).1.1) (takeZ 0 1 bs a 0).2.1 with
      | error E2 =>
        rw [hT] at h
        have h : E2 = E := by simpa [tkAfter] using h
        rw [← h]
        exact tkFs_err bs _ _ _ _ hT
      | ok r =>
        obtain ⟨x, a2⟩ := r
        rw [hT] at h
        unfold tkAfter at h
        dsimp only at h
        split at h
        · cases hV : tkVal bs most a2 with
          | error E2 =>
            rw [hV] at h
            have h : E2 = E := by simpa using h
            rw [← h]
            exact tkVal_err bs most a2 E2 hV
          | ok r => rw [hV] at h; cases h
        · cases h
    · injection h with h; rw [← h]; decide
  · rename_i h0; injection h with h; rw [← h]; exact h0

theorem tkCode_err (bs : List Int) (most : Int) : ∀ (n a : Nat) (E : Int), tkCode bs most n a = .error E → E ≠ 0 := by
  intro n
  induction n with
  | zero => intro a E h; rw [tkCode] at h; cases h
  | succ n ih =>
    intro a E h
    rw [tkCode] at h
    cases hI : tkIns bs most a with
    | error E2 =>
      rw [hI] at h
      have h : E2 = E := by simpa using h
      rw [← h]
      exact tkIns_err bs most a E2 hI
    | ok r =>
      obtain ⟨x, a2⟩ := r
      rw [hI] at h
      dsimp only at h
      cases hC : tkCode bs most n a2 with
      | error E2 =>
        rw [hC] at h
        have h : E2 = E := by simpa using h
        rw [← h]
        exact ih a2 E2 hC
      | ok r => rw [hC] at h; cases h

theorem tkProc_err (bs : List Int) (E : Int) (h : tkProc bs = .error E) : E ≠ 0 := by
  unfold tkProc at h
  split at h
  · split at h
    · unfold tkEnd at h
      split at h
      · rename_i E2 hC
        have h : E2 = E := by simpa using h
        rw [← h]
        exact tkCode_err _ _ _ _ _ hC
      · split at h
        · cases h
        · rename_i h0; injection h with h; rw [← h]; exact h0
    · injection h with h; rw [← h]; decide
  · rename_i h0; injection h with h; rw [← h]; exact h0

theorem decP_err (bs : List Int) (E : Int) (h : decP bs = .error E) : E ≠ 0 := by
  unfold decP at h
  cases hT : tkProc bs with
  | error E2 =>
    rw [hT] at h
    have h : E2 = E := by simpa using h
    rw [← h]
    exact tkProc_err bs E2 hT
  | ok r =>
    obtain ⟨nm, ar, xs⟩ := r
    rw [hT] at h
    dsimp only at h
    split at h
    · cases h
    · rename_i h0; injection h with h; rw [← h]; exact h0

theorem decP_ok (bs : List Int) (nm : List Int) (ar : Int) (xs : List Ins) (h : decP bs = .ok (nm, ar, xs)) : tkProc bs = .ok (nm, ar, xs) ∧ (procChk (mkStr nm) ar xs).2 = 0 := by
  unfold decP at h
  cases hT : tkProc bs with
  | error E2 => rw [hT] at h; cases h
  | ok r =>
    obtain ⟨nm', ar', xs'⟩ := r
    rw [hT] at h
    dsimp only at h
    split at h
    · rename_i h0
      injection h with h
      injection h with h1 h
      injection h with h2 h3
      subst h1 h2 h3
      exact ⟨rfl, h0⟩
    · cases h

/-- Another procedure's beginning is none. -/
theorem decP_cut (bs : List Int) (ho : Oct bs) (nm : List Int) (ar : Int) (xs : List Ins) (h : decP bs = .ok (nm, ar, xs)) (c : Nat) (hc : c < bs.length) : ∃ E, decP (bs.take c) = .error E ∧ E ≠ 0 := by
  cases hD : decP (bs.take c) with
  | error E => exact ⟨E, rfl, decP_err _ _ hD⟩
  | ok r =>
    obtain ⟨nm', ar', xs'⟩ := r
    exfalso
    have h1 := (decP_ok _ _ _ _ hD).1
    have h2 := tkProc_more (bs.take c) (bs.drop c) (ho.take c) (by intro e; have := congrArg List.length e; simp at this; omega) _ _ _ h1
    rw [List.take_append_drop, (decP_ok _ _ _ _ h).1] at h2
    cases h2

theorem decP_more (bs m : List Int) (ho : Oct bs) (hm : m ≠ []) (nm : List Int) (ar : Int) (xs : List Ins) (h : decP bs = .ok (nm, ar, xs)) : decP (bs ++ m) = .error 3 := by
  unfold decP
  rw [tkProc_more bs m ho hm nm ar xs (decP_ok _ _ _ _ h).1]

theorem decP_pos (bs : List Int) (nm : List Int) (ar : Int) (xs : List Ins) (h : decP bs = .ok (nm, ar, xs)) : 0 < bs.length := by
  cases bs with
  | nil =>
    have h1 := (decP_ok _ _ _ _ h).1
    have e : tkProc [] = .error 2 := by rfl
    rw [e] at h1
    cases h1
  | cons b bs => simp

/-- Where the law is behind Decode. -/
structure Fst (w W : World) (r : Nat) (nm : ByteArray) (ar : Int) (xs : List Ins) (cb : Nat) : Prop where
  r0 : W.heap[r]? = some (po nm ar (.slice (some ⟨cb, 0, none⟩) xs.length xs.length))
  bk : ∃ cs, W.heap[cb]? = some (.cells cs 52 (0, 0))
  co : ∀ (j : Nat) (x : Ins), xs[j]? = some x → InsAt W cb (j * 8) x
  hb : Below w.heap.size w W

theorem Fst.below {w W W' : World} {r : Nat} {nm : ByteArray} {ar : Int} {xs : List Ins} {cb : Nat} (h : Fst w W r nm ar xs cb) (hb : Below W.heap.size W W') : Fst w W' r nm ar xs cb := by
  obtain ⟨cs, hc⟩ := h.bk
  have hl := hb.block _ (lt_of hc)
  exact ⟨blk_of hb h.r0 (lt_of h.r0), ⟨cs, hl.trans hc⟩, fun j x hx => (h.co j x hx).same hl, below_on h.hb hb⟩

theorem Fst.code {w W : World} {r : Nat} {nm : ByteArray} {ar : Int} {xs : List Ins} {cb : Nat} (h : Fst w W r nm ar xs cb) : CodeAt W (.slice (some ⟨cb, 0, none⟩) xs.length xs.length) xs :=
  ⟨_, _, rfl, Nat.le_refl _, fun _ => ⟨cb, 0, rfl, fun j x hx => by rw [Nat.zero_add]; exact h.co j x hx⟩⟩

theorem fst_start {w w1 : World} {nm : ByteArray} {ar : Int} {xs : List Ins} {cb : Nat} (hb : Below w.heap.size w w1) (bk : ∃ cs, w1.heap[cb]? = some (.cells cs 52 (0, 0))) (co : ∀ (j : Nat) (x : Ins), xs[j]? = some x → InsAt w1 cb (j * 8) x) :
    Fst w (w1.alloc (po nm ar (.slice (some ⟨cb, 0, none⟩) xs.length xs.length))) w1.heap.size nm ar xs cb := by
  obtain ⟨cs, hc⟩ := bk
  have hl : ((w1.alloc (po nm ar (.slice (some ⟨cb, 0, none⟩) xs.length xs.length))).heap[cb]?) = w1.heap[cb]? := Below.heap_alloc _ _ _ (lt_of hc)
  exact ⟨heap_alloc_new w1 _, ⟨cs, hl.trans hc⟩, fun j x hx => (co j x hx).same hl, hb.alloc hb.size _⟩

theorem app_one {w w5 w7 : World} {ao : Option Addr} {c : Nat} {bs : List Int} {v : Value} (h5 : Below w.heap.size w w5) (ho : w7.ownsRow w5.heap.size 5 1 (.slice ao (0 + bs.length) c) (0 + bs.length) (B8 ([] ++ bs))) (hg : (w5.alloc (.cells #[] 5)).grownBy w7 v.ownBlock) (hv : ∀ k, v.ownBlock = some k → w5.heap.size ≤ k) :
    w7.ownsRow w5.heap.size 5 1 (.slice ao bs.length c) bs.length (B8 bs) ∧ Below w.heap.size w w7 ∧ w5.heap.size ≤ w7.heap.size := by
  have hb : Below w5.heap.size w5 w7 := (below1 w5 _).trans ((Below.refl _ _).grown hg (by simp) hv)
  exact ⟨by simpa using ho, below_on h5 hb, hb.size⟩

theorem app_two {w w5 w7 w8 : World} {ao ao2 : Option Addr} {c c2 : Nat} {bs ms : List Int} (h7 : w7.ownsRow w5.heap.size 5 1 (.slice ao bs.length c) bs.length (B8 bs)) (h7b : Below w.heap.size w w7) (hz : w5.heap.size ≤ w7.heap.size) (h5 : w.heap.size ≤ w5.heap.size)
    (ho : w8.ownsRow w5.heap.size 5 1 (.slice ao2 (bs.length + ms.length) c2) (bs.length + ms.length) (B8 (bs ++ ms))) (hg : w7.grownBy w8 (Value.slice ao bs.length c).ownBlock) :
    w8.ownsRow w5.heap.size 5 1 (.slice ao2 (bs.length + ms.length) c2) (bs.length + ms.length) (B8 (bs ++ ms)) ∧ Below w.heap.size w w8 := by
  have _ := hz
  exact ⟨ho, h7b.grown hg h7b.size (fun k hk => by have := (h7.lt k hk).1; omega)⟩

end Go.Proofs.Ytdnlfacfleemeaa
