import Derived.Test.YthjggbcppgbdoabK05
namespace Go.Proofs.Ythjggbcppgbdoab
open Go.RowKit

set_option maxRecDepth 100000 in
set_option maxHeartbeats 2000000 in
theorem held_any (b : Nat) (s : Sd) (w : World) (h : Sl w b s) : Calls Try.prog 37 #[.pointer (some ⟨b, 0, none⟩)] w fun x w' => x = .returned (.tuple #[.int .i64 (s.copy (!s.w)), .bool (s.has (!s.w))]) ∧ ∃ n, w' = w.drewN n := by
  obtain ⟨c0, c1, h0, h1, r, wb⟩ := s
  obtain ⟨d0, d1, d2, d3, d4, d5⟩ := cells6 h
  have OT := hid (other_any wb)
  clear h
  cases wb
  · simp only [bit, Bool.false_eq_true, if_false, Bool.not_false, if_true] at d5 OT
    go_enter Try.func37, Try.ntmps37
    go_wp2_with (
      go_at_call 25
      refine (OT.out _).mono ?_
      rintro e w1 ⟨rfl, e1⟩
      rw [e1]
      clear e1 w1)
    go_quiet (fail)
    go_wp2
    go_ret2
    exact ⟨rfl, _, rfl⟩
  · simp only [bit, if_true, Bool.not_true, Bool.false_eq_true, if_false] at d5 OT
    go_enter Try.func37, Try.ntmps37
    go_wp2_with (
      go_at_call 25
      refine (OT.out _).mono ?_
      rintro e w1 ⟨rfl, e1⟩
      rw [e1]
      clear e1 w1)
    go_quiet (fail)
    go_wp2
    go_ret2
    exact ⟨rfl, _, rfl⟩

/-- at of a store, or of none. -/
theorem getV_nil (key : ByteArray) : getV key [] = .tuple #[.pointer none, .bool false] := rfl

set_option maxRecDepth 100000 in
set_option maxHeartbeats 2000000 in
theorem sat_any (o : Option Addr) (key : ByteArray) (t : Tr) (w : World) (u : Option Addr) (q : Bool) (ht : TO w o t) (hv : getV key t.toL = .tuple #[.pointer u, .bool q]) :
    Calls Try.prog 26 #[.pointer o, .string key] w fun x w' => x = .returned (.tuple #[.pointer u, .bool q]) ∧ Below w.heap.size w w' := by
  rcases ht with ⟨rfl, rfl⟩ | ⟨p, cm, rfl, ht⟩
  · have e : u = none ∧ q = false := by
      have : getV key [] = .tuple #[.pointer u, .bool q] := hv
      rw [getV_nil] at this
      simp at this
      exact ⟨this.1.symm, this.2⟩
    obtain ⟨rfl, rfl⟩ := e
    clear hv
    go_enter Try.func26, Try.ntmps26
    go_wp2
    go_ret2
    exact ⟨rfl, Below.refl _ _⟩
  · have G := hid (show Calls Try.prog 46 #[.pointer (some ⟨p, 0, none⟩), .string key] w fun x w' => x = .returned (.tuple #[.pointer u, .bool q]) ∧ Below w.heap.size w w' from hv ▸ get_any (some ⟨p, 0, none⟩) key t w (.inr ⟨p, cm, rfl, ht⟩))
    clear ht hv
    go_enter Try.func26, Try.ntmps26
    go_wp2_with (
      go_at_call 46
      refine G.out.mono ?_
      rintro e w1 ⟨rfl, hb⟩
      have HB := hid hb
      clear hb)
    go_ret2
    exact ⟨rfl, HB.out⟩

/-- What lay leaves. -/
def LayP (w : World) (b : Nat) (s : Sd) (v : Int) (h : Bool) : Ending → World → Prop := fun x w' => x = .returned (.tuple #[]) ∧ Sl w' b (s.lay v h) ∧ Kept (fun j => j = b) w w'

theorem lay_fin {w : World} {b : Nat} {s : Sd} (hs : Sl w b s) (v : Int) (h : Bool) : LayP w b s v h (.returned (.tuple #[])) ((((w.setCell ⟨b, if s.w then 1 else 0, none⟩ (.int .i64 v)).setCell ⟨b, if s.w then 3 else 2, none⟩ (.bool h)).setCell ⟨b, 4, none⟩ (.int .i64 (bit s.w))).drew) := by
  obtain ⟨c0, c1, h0, h1, r, wb⟩ := s
  refine ⟨rfl, ?_, ((((Kept.refl (fun j => j = b) w).setCell (p := ⟨b, _, none⟩) (fun _ => rfl) _).setCell (p := ⟨b, _, none⟩) (fun _ => rfl) _).setCell (p := ⟨b, 4, none⟩) (fun _ => rfl) _).drew⟩
  have e := set_block (i := 4) (set_block (i := if wb then 3 else 2) (set_block (i := if wb then 1 else 0) hs (.int .i64 v)) (.bool h)) (.int .i64 (bit wb))
  cases wb
  · exact e
  · exact e

set_option maxRecDepth 100000 in
set_option maxHeartbeats 4000000 in
theorem lay_any (b : Nat) (s : Sd) (v : Int) (h : Bool) (w : World) (hs : Sl w b s) : Calls Try.prog 29 #[.pointer (some ⟨b, 0, none⟩), .int .i64 v, .bool h] w (LayP w b s v h) := by
  have FI := hid (lay_fin hs v h)
  have ff : ∀ j, w.frozen? ⟨b, j, none⟩ = false := fun j => free_of_block hs
  generalize hP : LayP w b s v h = PP at FI ⊢
  obtain ⟨c0, c1, h0, h1, r, wb⟩ := s
  obtain ⟨d0, d1, d2, d3, d4, d5⟩ := cells6 hs
  clear hs hP
  cases wb
  · simp only [bit, Bool.false_eq_true, if_false] at d5 FI
    go_enter Try.func29, Try.ntmps29
    go_wp2_with fail
    go_region_held3 (fun wx => wx.cell? ⟨b, 5, none⟩ = some (.int .i64 0))
      (first | (go_keep; done) | (rw [dw_cell, cs_off (by decide)]; exact d5) | (rw [dw_cell, cs_off (by decide), cs_off (by decide)]; exact d5) | (rw [cs_off (by decide), dw_cell]; exact d5) | (rw [cs_off (by decide), cs_off (by decide), dw_cell]; exact d5))
      (fail)
    all_goals
      go_wp2
      first | exact FI.out | (go_end0; exact FI.out)
  · simp only [bit, if_true] at d5 FI
    go_enter Try.func29, Try.ntmps29
    go_wp2_with fail
    go_region_held3 (fun wx => wx.cell? ⟨b, 5, none⟩ = some (.int .i64 1))
      (first | (go_keep; done) | (rw [dw_cell, cs_off (by decide)]; exact d5) | (rw [dw_cell, cs_off (by decide), cs_off (by decide)]; exact d5) | (rw [cs_off (by decide), dw_cell]; exact d5) | (rw [cs_off (by decide), cs_off (by decide), dw_cell]; exact d5))
      (fail)
    all_goals
      go_wp2
      first | exact FI.out | (go_end0; exact FI.out)

/-- A store: its table of slots, how many keys have something, whether it is marked. -/
structure ZS (w : World) (p : Nat) (t : Tr) (f : Nat → Sd) (c : Int) (m : Bool) : Prop where
  tb : Tb (.int .i64 c, .bool m) w p t
  sl : ∀ e ∈ t.toL, ∃ b, e.2.2 = .pointer (some ⟨b, 0, none⟩) ∧ Sl w b (f b)
  nd : (t.toL.map (fun e => e.2.2)).Nodup
  sh : ∀ e ∈ t.toL, e.2.1.size ≤ 281474976710656

/-- What a store tells of a key. -/
def zget (key : ByteArray) (f : Nat → Sd) (l : List En) : Int × Bool := match ent key l with
  | some e => (match e.2.2 with | .pointer (some a) => ((f a.block).copy (f a.block).r, (f a.block).has (f a.block).r) | _ => (0, false))
  | none => (0, false)

set_option maxRecDepth 100000 in
set_option maxHeartbeats 2000000 in
theorem sget_any (p : Nat) (key : ByteArray) (t : Tr) (f : Nat → Sd) (c : Int) (m : Bool) (w : World) (h : ZS w p t f c m) :
    Calls Try.prog 15 #[.pointer (some ⟨p, 0, none⟩), .string key] w fun x w' => x = .returned (.tuple #[.int .i64 (zget key f t.toL).1, .bool (zget key f t.toL).2]) ∧ Below w.heap.size w w' := by
  cases hq : ent key t.toL with
  | none =>
    have AT := hid (sat_any (some ⟨p, 0, none⟩) key t w none false (.inr ⟨p, _, rfl, h.tb⟩) (by rw [getV, hq]))
    have e : zget key f t.toL = (0, false) := by unfold zget; rw [hq]
    rw [e]
    clear h hq e
    go_enter Try.func15, Try.ntmps15
    go_wp2_with (
      go_at_call 26
      refine AT.out.mono ?_
      rintro e w1 ⟨rfl, hb⟩
      have HB := hid hb
      clear hb)
    go_ret2
    exact ⟨rfl, below_on HB.out (below_new _ _)⟩
  | some e0 =>
    obtain ⟨b, hb, hs⟩ := h.sl e0 (ent_some hq).1
    have AT := hid (sat_any (some ⟨p, 0, none⟩) key t w (some ⟨b, 0, none⟩) true (.inr ⟨p, _, rfl, h.tb⟩) (by rw [getV, hq]; show Value.tuple #[e0.2.2, .bool true] = _; rw [hb]))
    have e : zget key f t.toL = ((f b).copy (f b).r, (f b).has (f b).r) := by unfold zget; rw [hq]; simp only [hb]
    rw [e]
    have RD := hid (fun w1 (hb : Below w.heap.size w w1) => read_any b (f b) w1 (hp_below hs hb (hp_lt hs)))
    clear h hq e hb hs
    go_enter Try.func15, Try.ntmps15
    go_wp2_with (first
      | (go_at_call 26
         refine AT.out.mono ?_
         rintro e w1 ⟨rfl, hb⟩
         have HB := hid hb
         clear hb)
      | (go_at_call 28
         refine (RD.out w1 HB.out).mono ?_
         rintro e w2 ⟨rfl, n2, e2⟩
         have E2 := hid e2
         clear e2))
    go_ret2
    exact ⟨rfl, by rw [E2.out]; exact blw_drewN HB.out⟩

end Go.Proofs.Ythjggbcppgbdoab

namespace Go.Proofs.Ythjggbcppgbdoab
open Go.RowKit

/-- What a table's blocks are not. -/
theorem tb_not {cm : Value × Value} {w : World} {p : Nat} {t : Tr} (ht : Tb cm w p t) {k : Nat} {cs : Array Value} {ty : TypeId} (hb : w.heap[k]? = some (.cells cs ty (0, 0))) (hn : ty ≠ 76 ∧ ty ≠ 105) : k ≠ p ∧ k ∉ t.bs := by
  refine ⟨?_, fun h => ?_⟩
  · rintro rfl
    rw [ht.blk] at hb
    injection hb with e
    injection e with _ e
    exact hn.1 e.symm
  · obtain ⟨key, v, hm⟩ := bs_mem h
    obtain ⟨a, c, d, e⟩ := ht.at_.mem k key v hm
    rw [e] at hb
    injection hb with e2
    injection e2 with _ e2
    exact hn.2 e2.symm

/-- The count is written. -/
theorem Tb.count {w : World} {p : Nat} {t : Tr} {c m : Value} (ht : Tb (c, m) w p t) (c' : Value) : Tb (c', m) (w.setCell ⟨p, 2, none⟩ c') p t := by
  have K : Kept (fun j => j = p) w (w.setCell ⟨p, 2, none⟩ c') := (Kept.refl (fun j => j = p) w).setCell (p := ⟨p, 2, none⟩) (fun _ => rfl) _
  exact ⟨set_block (i := 2) ht.blk c', ht.at_.kept K (fun i hi e => ht.apart (e ▸ hi)), ht.rs, ht.nd⟩

def updF (f : Nat → Sd) (b : Nat) (s : Sd) : Nat → Sd := fun j => if j = b then s else f j

theorem ZS.below {w w' : World} {p : Nat} {t : Tr} {f : Nat → Sd} {c : Int} {m : Bool} (h : ZS w p t f c m) (hb : Below w.heap.size w w') : ZS w' p t f c m :=
  ⟨h.tb.below hb, fun e he => by
    obtain ⟨b, h1, h2⟩ := h.sl e he
    exact ⟨b, h1, hp_below h2 hb (hp_lt h2)⟩, h.nd, h.sh⟩

theorem ZS.count {w : World} {p : Nat} {t : Tr} {f : Nat → Sd} {c : Int} {m : Bool} (h : ZS w p t f c m) (c' : Int) : ZS (w.setCell ⟨p, 2, none⟩ (.int .i64 c')) p t f c' m :=
  ⟨h.tb.count _, fun e he => by
    obtain ⟨b, h1, h2⟩ := h.sl e he
    exact ⟨b, h1, hp_set h2 (tb_not h.tb h2 (by decide)).1 _⟩, h.nd, h.sh⟩

/-- A slot is laid. -/
theorem ZS.lay {w w' : World} {p : Nat} {t : Tr} {f : Nat → Sd} {c : Int} {m : Bool} {e0 : En} {b : Nat} {s : Sd} (h : ZS w p t f c m) (he : e0 ∈ t.toL) (hb : e0.2.2 = .pointer (some ⟨b, 0, none⟩)) (hs : Sl w' b s) (hk : Kept (fun j => j = b) w w') : ZS w' p t (updF f b s) c m := by
  obtain ⟨b0, h1, h2⟩ := h.sl e0 he
  have hbb : b0 = b := by rw [hb] at h1; injection h1 with h1; injection h1 with h1; injection h1 with h1; exact h1.symm
  subst hbb
  have hn := tb_not h.tb h2 (by decide)
  refine ⟨h.tb.kept hk (fun e => hn.1 e.symm) (fun i hi e => hn.2 (e ▸ hi)), fun e hm => ?_, h.nd, h.sh⟩
  obtain ⟨b', q1, q2⟩ := h.sl e hm
  refine ⟨b', q1, ?_⟩
  by_cases hbe : b' = b0
  · subst hbe
    unfold updF
    rw [if_pos rfl]
    exact hs
  · unfold updF
    rw [if_neg hbe]
    exact hp_kept q2 hk hbe

/-- What Put of a key with a slot leaves. -/
def SputP (w : World) (p : Nat) (t : Tr) (f : Nat → Sd) (c : Int) (m : Bool) (b : Nat) (v : Int) : Ending → World → Prop := fun x w' => x = .returned (.tuple #[]) ∧ ZS w' p t (updF f b ((f b).lay v true)) (if (f b).has (f b).r then c else c + 1) m ∧ Kept (fun j => j = p ∨ j = b) w w'

set_option maxRecDepth 100000 in
set_option maxHeartbeats 4000000 in
theorem sput_has (p : Nat) (key : ByteArray) (v : Int) (t : Tr) (f : Nat → Sd) (c : Int) (m : Bool) (w : World) (e0 : En) (b : Nat) (h : ZS w p t f c m) (hc : 0 ≤ c ∧ c ≤ 1000000) (hq : ent key t.toL = some e0) (hb : e0.2.2 = .pointer (some ⟨b, 0, none⟩)) :
    Calls Try.prog 10 #[.pointer (some ⟨p, 0, none⟩), .string key, .int .i64 v] w (SputP w p t f c m b v) := by
  have he := (ent_some hq).1
  have AT := hid (sat_any (some ⟨p, 0, none⟩) key t w (some ⟨b, 0, none⟩) true (.inr ⟨p, _, rfl, h.tb⟩) (by rw [getV, hq]; show Value.tuple #[e0.2.2, .bool true] = _; rw [hb]))
  have hsl : ∀ {W : World} {c' : Int}, ZS W p t f c' m → Sl W b (f b) := fun hz => by
    obtain ⟨b0, h1, h2⟩ := hz.sl e0 he
    have hbb : b0 = b := by rw [hb] at h1; injection h1 with h1; injection h1 with h1; injection h1 with h1; exact h1.symm
    subst hbb
    exact h2
  have RD := hid (fun w1 (hb1 : Below w.heap.size w w1) => read_any b (f b) w1 (hsl (h.below hb1)))
  have LY := hid (show ∀ W c', ZS W p t f c' m → Calls Try.prog 29 #[.pointer (some ⟨b, 0, none⟩), .int .i64 v, .bool true] W fun x w' => x = .returned (.tuple #[]) ∧ Hid (ZS w' p t (updF f b ((f b).lay v true)) c' m ∧ Kept (fun j => j = b) W w') from fun W c' hz => by
    refine (lay_any b (f b) v true W (hsl hz)).mono ?_
    rintro x w' ⟨rfl, h1, h2⟩
    exact ⟨rfl, hid ⟨hz.lay he hb h1 h2, h2⟩⟩)
  have HZ := hid h
  have hcw : IntKind.i64.wrap (c + 1) = c + 1 := by rw [IntKind.wrap_i64]; omega
  generalize hP : SputP w p t f c m b v = PP
  have HP := hid hP
  clear h hc hq hb he hsl hP
  cases hh : (f b).has (f b).r
  · have R2 := hid (show ∀ w1, Below w.heap.size w w1 → Calls Try.prog 28 #[.pointer (some ⟨b, 0, none⟩)] w1 fun x w' => x = .returned (.tuple #[.int .i64 ((f b).copy (f b).r), .bool false]) ∧ Hid (Below w1.heap.size w1 w') from fun w1 hb1 => (RD.out w1 hb1).mono (by
      rintro x w' ⟨rfl, n, rfl⟩
      exact ⟨by rw [hh], hid (blw_drewN (Below.refl _ _))⟩))
    have HH := hid hh
    clear RD hh
    go_enter Try.func10, Try.ntmps10
    go_wp2_with (first
      | (go_at_call 26
         refine AT.out.mono ?_
         rintro e w1 ⟨rfl, hb1⟩
         have B1 := hid hb1
         clear hb1)
      | (go_at_call 28
         refine (R2.out w1 B1.out).mono ?_
         rintro e w2 ⟨rfl, B2⟩
         have Z2 := hid (HZ.out.below (below_on B1.out B2.out))
         obtain ⟨y0, y1, y2, y3⟩ := cells4 Z2.out.tb.blk
         have yf : ∀ j, w2.frozen? ⟨p, j, none⟩ = false := fun j => free_of_block Z2.out.tb.blk
         have L2 := hid (LY.out _ _ (Z2.out.count (c + 1))))
      | (go_at_call 29
         refine L2.out.mono ?_
         rintro e w3 ⟨rfl, N3⟩))
    go_end0
    rw [← HP.out]
    refine ⟨rfl, by rw [HH.out]; exact N3.out.1, ?_⟩
    have k1 : Kept (fun j => j = p ∨ j = b) w w2 := (Kept.ofBelow (below_on B1.out B2.out)).mono (fun _ _ e => e.elim)
    exact (k1.setCell (p := ⟨p, 2, none⟩) (fun _ => .inl rfl) _).trans N3.out.2 (fun _ _ e => .inr e)
  · have R2 := hid (show ∀ w1, Below w.heap.size w w1 → Calls Try.prog 28 #[.pointer (some ⟨b, 0, none⟩)] w1 fun x w' => x = .returned (.tuple #[.int .i64 ((f b).copy (f b).r), .bool true]) ∧ Hid (Below w1.heap.size w1 w') from fun w1 hb1 => (RD.out w1 hb1).mono (by
      rintro x w' ⟨rfl, n, rfl⟩
      exact ⟨by rw [hh], hid (blw_drewN (Below.refl _ _))⟩))
    have HH := hid hh
    clear RD hh
    go_enter Try.func10, Try.ntmps10
    go_wp2_with (first
      | (go_at_call 26
         refine AT.out.mono ?_
         rintro e w1 ⟨rfl, hb1⟩
         have B1 := hid hb1
         clear hb1)
      | (go_at_call 28
         refine (R2.out w1 B1.out).mono ?_
         rintro e w2 ⟨rfl, B2⟩
         have Z2 := hid (HZ.out.below (below_on B1.out B2.out))
         have L2 := hid (LY.out _ _ Z2.out))
      | (go_at_call 29
         refine L2.out.mono ?_
         rintro e w3 ⟨rfl, N3⟩))
    go_end0
    rw [← HP.out]
    refine ⟨rfl, by rw [HH.out]; exact N3.out.1, ?_⟩
    have k1 : Kept (fun j => j = p ∨ j = b) w w2 := (Kept.ofBelow (below_on B1.out B2.out)).mono (fun _ _ e => e.elim)
    exact k1.trans N3.out.2 (fun _ _ e => .inr e)

end Go.Proofs.Ythjggbcppgbdoab

namespace Go.Proofs.Ythjggbcppgbdoab
open Go.RowKit

/-- A new slot. -/
abbrev s0 : Sd := ⟨0, 0, false, false, false, true⟩
abbrev s0B : Obj := .cells #[.int .i64 0, .int .i64 0, .bool false, .bool false, .int .i64 0, .int .i64 1] 42

/-- A key with a new slot is in the table. -/
theorem ZS.put {w w1 w3 : World} {p : Nat} {t t' : Tr} {f : Nat → Sd} {c : Int} {m : Bool} {key : ByteArray} (h : ZS w p t f c m) (hb : Below w.heap.size w w1) (hp : PutP (.int .i64 c, .bool m) (w1.alloc s0B) w3 p t t' key (.pointer (some ⟨w1.heap.size, 0, none⟩))) (hq : ent key t.toL = none) (hk : key.size ≤ 281474976710656) :
    ZS w3 p t' (updF f w1.heap.size s0) c m ∧ (∃ n, t'.toL = ins (n, key, .pointer (some ⟨w1.heap.size, 0, none⟩)) t.toL) ∧ Kept (fun j => j = p ∨ j ∈ t.bs) w w3 ∧ ∀ i ∈ t'.bs, i ∈ t.bs ∨ w.heap.size ≤ i := by
  have hz := h.below hb
  have hz2 := hz.below (below_new w1 s0B)
  have hnew : (w1.alloc s0B).heap[w1.heap.size]? = some s0B := hp_new w1 _
  have hn := tb_not hz2.tb hnew (by decide)
  have hs3 : Sl w3 w1.heap.size s0 := hp_kept hnew hp.kp (fun e => e.elim hn.1 hn.2)
  obtain ⟨mb, hl⟩ : ∃ n, t'.toL = ins (n, key, .pointer (some ⟨w1.heap.size, 0, none⟩)) t.toL := by
    rcases hp.ls with ⟨e, he, -⟩ | ⟨-, n, hl⟩
    · rw [hq] at he; cases he
    · exact ⟨n, hl⟩
  have hperm := ins_perm (mb, key, Value.pointer (some ⟨w1.heap.size, 0, none⟩)) t.toL
  have hlt : ∀ e ∈ t.toL, ∀ b, e.2.2 = .pointer (some ⟨b, 0, none⟩) → b < w1.heap.size := fun e he b hbe => by
    obtain ⟨b0, q1, q2⟩ := hz.sl e he
    rw [hbe] at q1
    injection q1 with q1
    injection q1 with q1
    injection q1 with q1
    subst q1
    exact hp_lt q2
  refine ⟨⟨hp.tb, fun e he => ?_, ?_, fun e he => ?_⟩, ⟨mb, hl⟩, ((Kept.ofBelow (below_on hb (below_new w1 s0B))).mono (fun _ _ e => e.elim)).trans hp.kp (fun _ _ e => e), fun i hi => (hp.nw i hi).imp id (fun h => by have := hb.size; simp at h; omega)⟩
  · rw [hl] at he
    rcases List.mem_cons.1 (hperm.mem_iff.1 he) with rfl | h1
    · exact ⟨_, rfl, by unfold updF; rw [if_pos rfl]; exact hs3⟩
    · obtain ⟨b, q1, q2⟩ := hz2.sl e h1
      have hb2 := hlt e h1 b q1
      refine ⟨b, q1, ?_⟩
      unfold updF
      rw [if_neg (by omega)]
      have hnb := tb_not hz2.tb q2 (by decide)
      exact hp_kept q2 hp.kp (fun e => e.elim hnb.1 hnb.2)
  · rw [hl]
    refine ((hperm.map (fun e => e.2.2)).nodup_iff).2 ?_
    rw [List.map_cons, List.nodup_cons]
    refine ⟨fun hm => ?_, h.nd⟩
    obtain ⟨e, he, hv⟩ := List.mem_map.1 hm
    have := hlt e he w1.heap.size hv
    omega
  · rw [hl] at he
    rcases List.mem_cons.1 (hperm.mem_iff.1 he) with rfl | h1
    · exact hk
    · exact h.sh e h1

/-- What Put of a key without a slot leaves. -/
def SputN (w : World) (p : Nat) (t : Tr) (f : Nat → Sd) (c : Int) (m : Bool) (key : ByteArray) (v : Int) : Ending → World → Prop := fun x w' => x = .returned (.tuple #[]) ∧ ∃ t' b n, w.heap.size ≤ b ∧ t'.toL = ins (n, key, .pointer (some ⟨b, 0, none⟩)) t.toL ∧ ZS w' p t' (updF (updF f b s0) b (s0.lay v true)) (c + 1) m ∧ Kept (fun j => j = p ∨ j ∈ t.bs) w w' ∧ ∀ i ∈ t'.bs, i ∈ t.bs ∨ w.heap.size ≤ i

set_option maxRecDepth 100000 in
set_option maxHeartbeats 4000000 in
theorem sput_new (p : Nat) (key : ByteArray) (v : Int) (t : Tr) (f : Nat → Sd) (c : Int) (m : Bool) (w : World) (h : ZS w p t f c m) (hc : 0 ≤ c ∧ c ≤ 1000000) (hn : t.n ≤ 600000) (hk : key.size ≤ 281474976710656) (hq : ent key t.toL = none) :
    Calls Try.prog 10 #[.pointer (some ⟨p, 0, none⟩), .string key, .int .i64 v] w (SputN w p t f c m key v) := by
  have AT := hid (sat_any (some ⟨p, 0, none⟩) key t w none false (.inr ⟨p, _, rfl, h.tb⟩) (by rw [getV, hq]))
  have PU := hid (show ∀ w1, Below w.heap.size w w1 → Calls Try.prog 27 #[.pointer (some ⟨p, 0, none⟩), .string key, .pointer (some ⟨w1.heap.size, 0, none⟩)] (w1.alloc s0B) fun x w' => ∃ t' u, x = .returned u ∧ Hid (ZS w' p t' (updF f w1.heap.size s0) c m ∧ (∃ n, t'.toL = ins (n, key, .pointer (some ⟨w1.heap.size, 0, none⟩)) t.toL) ∧ Kept (fun j => j = p ∨ j ∈ t.bs) w w' ∧ ∀ i ∈ t'.bs, i ∈ t.bs ∨ w.heap.size ≤ i) from fun w1 hb => by
    refine (put_any p key (some ⟨w1.heap.size, 0, none⟩) t (w1.alloc s0B) ((h.below hb).below (below_new w1 s0B)).tb hn hk).mono ?_
    rintro x w' ⟨t', rfl, hp⟩
    exact ⟨t', _, rfl, hid (h.put hb hp hq hk)⟩)
  have hmem : ∀ {t' : Tr} {n b : Nat}, t'.toL = ins (n, key, Value.pointer (some ⟨b, 0, none⟩)) t.toL → (n, key, Value.pointer (some ⟨b, 0, none⟩)) ∈ t'.toL := fun hl => by rw [hl]; exact (ins_perm _ _).mem_iff.2 (by simp)
  have RD := hid (show ∀ (W : World) (t' : Tr) (b : Nat), ZS W p t' (updF f b s0) c m → (∃ n, t'.toL = ins (n, key, .pointer (some ⟨b, 0, none⟩)) t.toL) → Calls Try.prog 28 #[.pointer (some ⟨b, 0, none⟩)] W fun x w' => x = .returned (.tuple #[.int .i64 0, .bool false]) ∧ Hid (ZS w' p t' (updF f b s0) c m ∧ Kept (fun _ => False) W w') from fun W t' b hz hl => by
    obtain ⟨n, hl⟩ := hl
    obtain ⟨b0, q1, q2⟩ := hz.sl _ (hmem hl)
    have hbb : b0 = b := by injection q1 with q1; injection q1 with q1; injection q1 with q1; exact q1.symm
    subst hbb
    have q3 : Sl W b0 s0 := by have := q2; unfold updF at this; rw [if_pos rfl] at this; exact this
    refine (read_any b0 s0 W q3).mono ?_
    rintro x w' ⟨rfl, k, rfl⟩
    exact ⟨rfl, hid ⟨hz.below (blw_drewN (Below.refl _ _)), Kept.ofBelow (blw_drewN (Below.refl _ _))⟩⟩)
  have LY := hid (show ∀ (W : World) (t' : Tr) (b : Nat) c', ZS W p t' (updF f b s0) c' m → (∃ n, t'.toL = ins (n, key, .pointer (some ⟨b, 0, none⟩)) t.toL) → Calls Try.prog 29 #[.pointer (some ⟨b, 0, none⟩), .int .i64 v, .bool true] W fun x w' => x = .returned (.tuple #[]) ∧ Hid (ZS w' p t' (updF (updF f b s0) b (s0.lay v true)) c' m ∧ Kept (fun j => j = b) W w') from fun W t' b c' hz hl => by
    obtain ⟨n, hl⟩ := hl
    obtain ⟨b0, q1, q2⟩ := hz.sl _ (hmem hl)
    have hbb : b0 = b := by injection q1 with q1; injection q1 with q1; injection q1 with q1; exact q1.symm
    subst hbb
    have q3 : Sl W b0 s0 := by have := q2; unfold updF at this; rw [if_pos rfl] at this; exact this
    refine (lay_any b0 s0 v true W q3).mono ?_
    rintro x w' ⟨rfl, h1, h2⟩
    exact ⟨rfl, hid ⟨hz.lay (hmem hl) rfl h1 h2, h2⟩⟩)
  have hcw : IntKind.i64.wrap (c + 1) = c + 1 := by rw [IntKind.wrap_i64]; omega
  generalize hP : SputN w p t f c m key v = PP
  have HP := hid hP
  clear h hc hq hn hk hmem hP
  go_enter Try.func10, Try.ntmps10
  go_wp2_with (first
    | (go_at_call 26
       refine AT.out.mono ?_
       rintro e w1 ⟨rfl, hb1⟩
       have B1 := hid hb1
       have P1 := hid (PU.out w1 hb1)
       clear hb1)
    | (go_at_call 27
       refine P1.out.mono ?_
       rintro e w2 ⟨t', u2, rfl, N2⟩
       have R2 := hid (RD.out w2 t' w1.heap.size N2.out.1 N2.out.2.1))
    | (go_at_call 28
       refine R2.out.mono ?_
       rintro e w3 ⟨rfl, N3⟩
       obtain ⟨y0, y1, y2, y3⟩ := cells4 N3.out.1.tb.blk
       have yf : ∀ j, w3.frozen? ⟨p, j, none⟩ = false := fun j => free_of_block N3.out.1.tb.blk
       have L3 := hid (LY.out _ t' w1.heap.size _ (N3.out.1.count (c + 1)) N2.out.2.1))
    | (go_at_call 29
       refine L3.out.mono ?_
       rintro e w4 ⟨rfl, N4⟩))
  go_end0
  rw [← HP.out]
  obtain ⟨n, hl⟩ := N2.out.2.1
  refine ⟨rfl, t', w1.heap.size, n, B1.out.size, hl, N4.out.1, ?_, N2.out.2.2.2⟩
  have k1 : Kept (fun j => j = p ∨ j ∈ t.bs) w w3 := N2.out.2.2.1.trans N3.out.2 (fun _ _ e => e.elim)
  have hs := B1.out.size
  exact (k1.setCell (p := ⟨p, 2, none⟩) (fun _ => .inl rfl) _).trans N4.out.2 (fun j hj e => by omega)

end Go.Proofs.Ythjggbcppgbdoab

namespace Go.Proofs.Ythjggbcppgbdoab
open Go.RowKit

theorem ZS.del {w w' : World} {p : Nat} {t t' : Tr} {f : Nat → Sd} {c : Int} {m : Bool} {key : ByteArray} (h : ZS w p t f c m) (hd : DelP (.int .i64 c, .bool m) w w' p t t' key) : ZS w' p t' f c m := by
  refine ⟨hd.tb, fun e he => ?_, ?_, fun e he => ?_⟩
  · rw [hd.ls] at he
    obtain ⟨b, q1, q2⟩ := h.sl e (mem_del he)
    have hn := tb_not h.tb q2 (by decide)
    exact ⟨b, q1, hp_kept q2 hd.kp (fun e => e.elim hn.1 hn.2)⟩
  · rw [hd.ls]
    show ((t.toL.filter _).map _).Nodup
    exact List.Nodup.sublist ((List.filter_sublist).map _) h.nd
  · rw [hd.ls] at he
    exact h.sh e (mem_del he)

set_option maxRecDepth 100000 in
set_option maxHeartbeats 2000000 in
/-- Delete of a key that has nothing. -/
theorem sdel_no (p : Nat) (key : ByteArray) (t : Tr) (f : Nat → Sd) (c : Int) (m : Bool) (w : World) (h : ZS w p t f c m) (hq : ent key t.toL = none ∨ ∃ e0 b, ent key t.toL = some e0 ∧ e0.2.2 = .pointer (some ⟨b, 0, none⟩) ∧ (f b).has (f b).r = false) :
    Calls Try.prog 17 #[.pointer (some ⟨p, 0, none⟩), .string key] w fun x w' => x = .returned (.tuple #[]) ∧ Below w.heap.size w w' := by
  rcases hq with hq | ⟨e0, b, hq, hb, hh⟩
  · have AT := hid (sat_any (some ⟨p, 0, none⟩) key t w none false (.inr ⟨p, _, rfl, h.tb⟩) (by rw [getV, hq]))
    clear h hq
    go_enter Try.func17, Try.ntmps17
    go_wp2_with (
      go_at_call 26
      refine AT.out.mono ?_
      rintro e w1 ⟨rfl, hb⟩
      have HB := hid hb
      clear hb)
    refine bodyPost_ret (results_none rfl _ _ _) rfl ?_
    exact ⟨rfl, HB.out⟩
  · have AT := hid (sat_any (some ⟨p, 0, none⟩) key t w (some ⟨b, 0, none⟩) true (.inr ⟨p, _, rfl, h.tb⟩) (by rw [getV, hq]; show Value.tuple #[e0.2.2, .bool true] = _; rw [hb]))
    obtain ⟨b0, q1, q2⟩ := h.sl e0 (ent_some hq).1
    have hbb : b0 = b := by rw [hb] at q1; injection q1 with q1; injection q1 with q1; injection q1 with q1; exact q1.symm
    subst hbb
    have RD := hid (show ∀ w1, Below w.heap.size w w1 → Calls Try.prog 28 #[.pointer (some ⟨b0, 0, none⟩)] w1 fun x w' => x = .returned (.tuple #[.int .i64 ((f b0).copy (f b0).r), .bool false]) ∧ Hid (Below w1.heap.size w1 w') from fun w1 hb1 => (read_any b0 (f b0) w1 (hp_below q2 hb1 (hp_lt q2))).mono (by
      rintro x w' ⟨rfl, n, rfl⟩
      exact ⟨by rw [hh], hid (blw_drewN (Below.refl _ _))⟩))
    clear h hq hb hh q1 q2
    go_enter Try.func17, Try.ntmps17
    go_wp2_with (first
      | (go_at_call 26
         refine AT.out.mono ?_
         rintro e w1 ⟨rfl, hb⟩
         have HB := hid hb
         clear hb)
      | (go_at_call 28
         refine (RD.out w1 HB.out).mono ?_
         rintro e w2 ⟨rfl, B2⟩))
    refine bodyPost_ret (results_none rfl _ _ _) rfl ?_
    exact ⟨rfl, below_on HB.out B2.out⟩

/-- What Delete of a key that has something leaves. -/
def SdelP (w : World) (p : Nat) (t : Tr) (f : Nat → Sd) (c : Int) (m : Bool) (key : ByteArray) (b : Nat) : Ending → World → Prop := fun x w' => x = .returned (.tuple #[]) ∧ ∃ t', t'.toL = (if m then t.toL else del key t.toL) ∧ ZS w' p t' (updF f b ((f b).lay 0 false)) (c - 1) m ∧ Kept (fun j => j = p ∨ j ∈ t.bs ∨ j = b) w w'

set_option maxRecDepth 100000 in
set_option maxHeartbeats 4000000 in
theorem sdel_has (p : Nat) (key : ByteArray) (t : Tr) (f : Nat → Sd) (c : Int) (m : Bool) (w : World) (e0 : En) (b : Nat) (h : ZS w p t f c m) (hc : 0 ≤ c ∧ c ≤ 1000000) (hn : t.n ≤ 600000) (hq : ent key t.toL = some e0) (hb : e0.2.2 = .pointer (some ⟨b, 0, none⟩)) (hh : (f b).has (f b).r = true) :
    Calls Try.prog 17 #[.pointer (some ⟨p, 0, none⟩), .string key] w (SdelP w p t f c m key b) := by
  have he := (ent_some hq).1
  have AT := hid (sat_any (some ⟨p, 0, none⟩) key t w (some ⟨b, 0, none⟩) true (.inr ⟨p, _, rfl, h.tb⟩) (by rw [getV, hq]; show Value.tuple #[e0.2.2, .bool true] = _; rw [hb]))
  have hsl : ∀ {W : World} {c' : Int}, ZS W p t f c' m → Sl W b (f b) := fun hz => by
    obtain ⟨b0, h1, h2⟩ := hz.sl e0 he
    have hbb : b0 = b := by rw [hb] at h1; injection h1 with h1; injection h1 with h1; injection h1 with h1; exact h1.symm
    subst hbb
    exact h2
  have RD := hid (show ∀ w1, Below w.heap.size w w1 → Calls Try.prog 28 #[.pointer (some ⟨b, 0, none⟩)] w1 fun x w' => x = .returned (.tuple #[.int .i64 ((f b).copy (f b).r), .bool true]) ∧ Hid (Below w1.heap.size w1 w') from fun w1 hb1 => (read_any b (f b) w1 (hsl (h.below hb1))).mono (by
    rintro x w' ⟨rfl, n, rfl⟩
    exact ⟨by rw [hh], hid (blw_drewN (Below.refl _ _))⟩))
  have LY := hid (show ∀ W c', ZS W p t f c' m → Calls Try.prog 29 #[.pointer (some ⟨b, 0, none⟩), .int .i64 0, .bool false] W fun x w' => x = .returned (.tuple #[]) ∧ Hid (ZS w' p t (updF f b ((f b).lay 0 false)) c' m ∧ Kept (fun j => j = b) W w') from fun W c' hz => by
    refine (lay_any b (f b) 0 false W (hsl hz)).mono ?_
    rintro x w' ⟨rfl, h1, h2⟩
    exact ⟨rfl, hid ⟨hz.lay he hb h1 h2, h2⟩⟩)
  have DL := hid (show ∀ W c', ZS W p t (updF f b ((f b).lay 0 false)) c' m → Calls Try.prog 38 #[.pointer (some ⟨p, 0, none⟩), .string key] W fun x w' => ∃ u t', x = .returned u ∧ Hid (t'.toL = del key t.toL ∧ ZS w' p t' (updF f b ((f b).lay 0 false)) c' m ∧ Kept (fun j => j = p ∨ j ∈ t.bs) W w') from fun W c' hz => by
    obtain ⟨eb, ek, ev⟩ := e0
    refine (delete_some p key t W hz.tb hn hq).mono ?_
    rintro x w' ⟨t', rfl, hd⟩
    exact ⟨_, t', rfl, hid ⟨hd.ls, hz.del hd, hd.kp⟩⟩)
  have HZ := hid h
  have hcw : IntKind.i64.wrap (c - 1) = c - 1 := by rw [IntKind.wrap_i64]; omega
  generalize hP : SdelP w p t f c m key b = PP
  have HP := hid hP
  clear h hc hn hq hb hh he hsl hP
  cases m
  · go_enter Try.func17, Try.ntmps17
    go_wp2_with (first
      | (go_at_call 26
         refine AT.out.mono ?_
         rintro e w1 ⟨rfl, hb1⟩
         have B1 := hid hb1
         clear hb1)
      | (go_at_call 28
         refine (RD.out w1 B1.out).mono ?_
         rintro e w2 ⟨rfl, B2⟩
         have Z2 := hid (HZ.out.below (below_on (below_on B1.out B2.out) (below_new w2 (.cells #[.int .i64 0] 3))))
         have L2 := hid (LY.out _ _ Z2.out))
      | (go_at_call 29
         refine L2.out.mono ?_
         rintro e w3 ⟨rfl, N3⟩
         obtain ⟨y0, y1, y2, y3⟩ := cells4 N3.out.1.tb.blk
         have yf : ∀ j, w3.frozen? ⟨p, j, none⟩ = false := fun j => free_of_block N3.out.1.tb.blk
         have D3 := hid (DL.out _ _ (N3.out.1.count (c - 1))))
      | (go_at_call 38
         refine D3.out.mono ?_
         rintro e w4 ⟨u4, t', rfl, N4⟩))
    go_end0
    rw [← HP.out]
    refine ⟨rfl, t', N4.out.1, N4.out.2.1, ?_⟩
    have k1 : Kept (fun j => j = p ∨ j ∈ t.bs ∨ j = b) w (w2.alloc (.cells #[.int .i64 0] 3)) := (Kept.ofBelow (below_on (below_on B1.out B2.out) (below_new w2 _))).mono (fun _ _ e => e.elim)
    exact (((k1.trans N3.out.2 (fun _ _ e => .inr (.inr e))).setCell (p := ⟨p, 2, none⟩) (fun _ => .inl rfl) _)).trans N4.out.2.2 (fun _ _ e => e.elim .inl (fun e => .inr (.inl e)))
  · go_enter Try.func17, Try.ntmps17
    go_wp2_with (first
      | (go_at_call 26
         refine AT.out.mono ?_
         rintro e w1 ⟨rfl, hb1⟩
         have B1 := hid hb1
         clear hb1)
      | (go_at_call 28
         refine (RD.out w1 B1.out).mono ?_
         rintro e w2 ⟨rfl, B2⟩
         have Z2 := hid (HZ.out.below (below_on (below_on B1.out B2.out) (below_new w2 (.cells #[.int .i64 0] 3))))
         have L2 := hid (LY.out _ _ Z2.out))
      | (go_at_call 29
         refine L2.out.mono ?_
         rintro e w3 ⟨rfl, N3⟩
         obtain ⟨y0, y1, y2, y3⟩ := cells4 N3.out.1.tb.blk
         have yf : ∀ j, w3.frozen? ⟨p, j, none⟩ = false := fun j => free_of_block N3.out.1.tb.blk
         have Z3 := hid (N3.out.1.count (c - 1))))
    go_end0
    rw [← HP.out]
    refine ⟨rfl, t, rfl, Z3.out, ?_⟩
    have k1 : Kept (fun j => j = p ∨ j ∈ t.bs ∨ j = b) w (w2.alloc (.cells #[.int .i64 0] 3)) := (Kept.ofBelow (below_on (below_on B1.out B2.out) (below_new w2 _))).mono (fun _ _ e => e.elim)
    exact (k1.trans N3.out.2 (fun _ _ e => .inr (.inr e))).setCell (p := ⟨p, 2, none⟩) (fun _ => .inl rfl) _

end Go.Proofs.Ythjggbcppgbdoab

namespace Go.Proofs.Ythjggbcppgbdoab
open Go.RowKit

abbrev Pl : Type := ByteArray × Sd

theorem tw_len {α : Type} {p : α → Bool} : ∀ {l : List α} {k : Nat}, (∀ i (h : i < l.length), i < k → p l[i] = true) → (∀ h : k < l.length, p l[k] = false) → k ≤ l.length → (l.takeWhile p).length = k
  | [], k, _, _, hk => by simp at hk; simp [hk]
  | a :: l, 0, _, h2, _ => by
    have := h2 (by simp)
    simp at this
    simp [List.takeWhile, this]
  | a :: l, k + 1, h1, h2, hk => by
    have ha := h1 0 (by simp) (by omega)
    simp at ha
    simp only [List.takeWhile, ha, List.length_cons]
    have := tw_len (l := l) (k := k) (p := p) (fun i h hi => by have := h1 (i + 1) (by simpa using h) (by omega); simpa using this) (fun h => by have := h2 (by simpa using h); simpa using this) (by simp at hk; exact hk)
    omega

/-- Where a key stands, or would. -/
def ri (key : ByteArray) (l : List Pl) : Nat := (l.takeWhile (fun e => kl e.1 key)).length
def rs (key : ByteArray) (l : List Pl) : Bool := match l[ri key l]? with | some e => decide (e.1 = key) | none => false

abbrev Sd.agg (s : Sd) : Value := .agg #[.int .i64 s.c0, .int .i64 s.c1, .bool s.h0, .bool s.h1, .int .i64 (bit s.r), .int .i64 (bit s.w)]

/-- What the document says that a key has. -/
def rgetV (key : ByteArray) (l : List Pl) : Int × Bool := match l[ri key l]? with
  | some e => if rs key l = true ∧ e.2.has e.2.r = true then (e.2.copy e.2.r, true) else (0, false)
  | none => (0, false)

/-- The least key above a text that has something, by the document. -/
def rnx (key : ByteArray) (l : List Pl) : Option Pl := l.find? (fun e => kl key e.1 && e.2.has e.2.r)
def rnextV (key : ByteArray) (l : List Pl) : Value := match rnx key l with | some e => .tuple #[.string e.1, .bool true] | none => .tuple #[.string ⟨#[]⟩, .bool false]

theorem find_at {α : Type} {p : α → Bool} {l : List α} {k : Nat} (h1 : ∀ j (hj : j < l.length), j < k → p l[j] = false) (hk : k < l.length) (hp : p l[k] = true) : l.find? p = some l[k] := by
  have e : l = l.take k ++ l[k] :: l.drop (k + 1) := by rw [← List.drop_eq_getElem_cons hk, List.take_append_drop]
  have hn : (l.take k).find? p = none := by
    rw [List.find?_eq_none]
    intro x hx
    obtain ⟨j, hj, rfl⟩ := List.getElem_of_mem hx
    rw [List.length_take] at hj
    rw [List.getElem_take, h1 j (by omega) (by omega)]
    simp
  have : ∀ f : α → Bool, l.find? f = ((l.take k).find? f).or ((l[k] :: l.drop (k + 1)).find? f) := fun f => by rw [← List.find?_append, ← e]
  rw [this, hn, List.find?_cons, hp]
  rfl
theorem find_no {α : Type} {p : α → Bool} {l : List α} (h1 : ∀ j (hj : j < l.length), p l[j] = false) : l.find? p = none := by
  rw [List.find?_eq_none]
  intro x hx
  obtain ⟨j, hj, rfl⟩ := List.getElem_of_mem hx
  rw [h1 j hj]
  simp

/-- What Put makes of the document's list. -/
def rputL (key : ByteArray) (k : Int) (l : List Pl) : List Pl := match l[ri key l]? with
  | some e => if rs key l = true then l.take (ri key l) ++ (key, e.2.lay k true) :: l.drop (ri key l + 1) else l.take (ri key l) ++ (key, ⟨0, k, false, true, true, true⟩) :: l.drop (ri key l)
  | none => l.take (ri key l) ++ (key, ⟨0, k, false, true, true, true⟩) :: l.drop (ri key l)

abbrev keepP (e : Pl) : Bool := e.2.has e.2.r

set_option maxRecDepth 100000 in
theorem load_agg56 {w : World} {r : Nat} {a b c d e f : Value} (hb : w.heap[r]? = some (.cells #[a, b, c, d, e, f] 42 (0, 0))) : (loadVar 42 ⟨r, 0, none⟩).run Try.prog w = .ok (.agg #[a, b, c, d, e, f]) w := by
  obtain ⟨c0, c1, c2, c3, c4, c5⟩ := cells6 hb
  simp [go_sem, c0, c1, c2, c3, c4, c5]
theorem ret_agg56b {fn : Func} {p q : Tmp} (h : fn.results = #[.cell p 42, .tmp q]) {tmps : Array Value} {r : Nat} {w : World} {a b c d e f x : Value} (ht : tmps.getD p undef = .pointer (some ⟨r, 0, none⟩)) (hq : tmps.getD q undef = x) (hb : w.heap[r]? = some (.cells #[a, b, c, d, e, f] 42 (0, 0))) :
    (results fn tmps).run Try.prog w = .ok (.tuple #[.agg #[a, b, c, d, e, f], x]) w := by
  have ht2 := ht
  have hq2 := hq
  simp only [Array.getD_eq_getD_getElem?] at ht2 hq2
  simp only [results, h]
  simp [ht2, hq2, load_agg56 hb, asAddr]

theorem set6 {w : World} {r : Nat} {a b c d e f : Value} {t : TypeId} (h : w.heap[r]? = some (.cells #[a, b, c, d, e, f] t (0, 0))) (x1 x2 x3 x4 x5 x6 : Value) :
    ((((((w.setCell ⟨r, 0, none⟩ x1).setCell ⟨r, 1, none⟩ x2).setCell ⟨r, 2, none⟩ x3).setCell ⟨r, 3, none⟩ x4).setCell ⟨r, 4, none⟩ x5).setCell ⟨r, 5, none⟩ x6).heap[r]? = some (.cells #[x1, x2, x3, x4, x5, x6] t (0, 0)) := by
  simp [World.setCell, Array.getElem?_modify, h]

theorem sl_set {w w2 : World} {b : Nat} (hB : Below w.heap.size w w2) (hn : w.heap.size ≤ b) (x1 x2 x3 x4 x5 x6 : Value) : Below w.heap.size w ((((((w2.setCell ⟨b, 0, none⟩ x1).setCell ⟨b, 1, none⟩ x2).setCell ⟨b, 2, none⟩ x3).setCell ⟨b, 3, none⟩ x4).setCell ⟨b, 4, none⟩ x5).setCell ⟨b, 5, none⟩ x6) := by
  have K := ((((((Kept.refl (fun k => k = b) w2).setCell (p := ⟨b, 0, none⟩) (fun _ => rfl) x1).setCell (p := ⟨b, 1, none⟩) (fun _ => rfl) x2).setCell (p := ⟨b, 2, none⟩) (fun _ => rfl) x3).setCell (p := ⟨b, 3, none⟩) (fun _ => rfl) x4).setCell (p := ⟨b, 4, none⟩) (fun _ => rfl) x5).setCell (p := ⟨b, 5, none⟩) (fun _ => rfl) x6
  exact hB.trans (K.below hB.size (fun k hk e => by omega))

/-- Where a key is found, its place is its own. -/
theorem rs_at {key : ByteArray} {l : List Pl} (hs : rs key l = true) : ∃ hk : ri key l < l.length, l[ri key l].1 = key := by
  unfold rs at hs
  rcases Nat.lt_or_ge (ri key l) l.length with h1 | h1
  · rw [List.getElem?_eq_getElem h1] at hs
    exact ⟨h1, by simpa using hs⟩
  · rw [List.getElem?_eq_none h1] at hs; cases hs

/-- What Delete makes of the document's list. -/
def rdelL (key : ByteArray) (m : Bool) (l : List Pl) : List Pl := match l[ri key l]? with
  | some e => if rs key l = true ∧ e.2.has e.2.r = true then
      (if m = true then l.take (ri key l) ++ (key, e.2.lay 0 false) :: l.drop (ri key l + 1) else (l.take (ri key l) ++ (key, e.2.lay 0 false) :: l.drop (ri key l + 1)).filter keepP) else l
  | none => l

end Go.Proofs.Ythjggbcppgbdoab
