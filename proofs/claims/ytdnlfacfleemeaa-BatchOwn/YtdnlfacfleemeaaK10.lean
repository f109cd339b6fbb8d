import Derived.Test.YtdnlfacfleemeaaK09
import Derived.Laws.MakeOwn
namespace Go.Proofs.Ytdnlfacfleemeaa
open Go.RowKit Go.Lib

set_option maxRecDepth 100000 in
theorem part_at (f : Fk) (r o : Nat) (w : World) : Calls Try.prog f.part #[.pointer (some ⟨r, o, none⟩)] w fun x w' => x = .returned (.pointer (some ⟨r, o + f.pos, none⟩)) ∧ w' = w := by
  cases f
  all_goals dsimp only [Fk.part, Fk.pos]
  all_goals first
    | (go_enter Try.func58, Try.ntmps58; go_wp2; go_ret; exact ⟨rfl, rfl⟩)
    | (go_enter Try.func59, Try.ntmps59; go_wp2; go_ret; exact ⟨rfl, rfl⟩)
    | (go_enter Try.func60, Try.ntmps60; go_wp2; go_ret; exact ⟨rfl, rfl⟩)
    | (go_enter Try.func62, Try.ntmps62; go_wp2; go_ret; exact ⟨rfl, rfl⟩)

/-- An instruction with nothing but its number. -/
def zIns (op : Int) : Ins := ⟨op, 0, 0, 0, 0, 0, 0, emp⟩

/-- Fields read one behind the other. -/
def tkFs (bs : List Int) : List Fk → Ins → Nat → Except Int (Ins × Nat)
  | [], x, a => .ok (x, a)
  | f :: fs, x, a => if (tkf f bs a).2.2 = 0 then tkFs bs fs (f.set (tkf f bs a).1.1 x) (tkf f bs a).2.1 else .error (tkf f bs a).2.2

/-- Behind the fields: the value. -/
def tkAfter (bs : List Int) (most : Int) (vv : Bool) : Except Int (Ins × Nat) → Except Int (Ins × Nat)
  | .error E => .error E
  | .ok (x, a2) => if vv = true then
      match tkVal bs most a2 with
      | .error E => .error E
      | .ok (d, a3) => .ok ({ x with k := d.1, i := d.2.1, t := mkStr d.2.2 }, a3)
    else .ok (x, a2)

/-- An instruction read. -/
def tkIns (bs : List Int) (most : Int) (a : Nat) : Except Int (Ins × Nat) :=
  if (takeZ 0 1 bs a 0).2.2 = 0 then
    if 1 ≤ (takeZ 0 1 bs a 0).1.1 ∧ (takeZ 0 1 bs a 0).1.1 ≤ 16 then
      tkAfter bs most (opN (takeZ 0 1 bs a 0).1.1 == 1) (tkFs bs (opF (opN (takeZ 0 1 bs a 0).1.1)) (zIns (takeZ 0 1 bs a 0).1.1) (takeZ 0 1 bs a 0).2.1)
    else .error 16
  else .error (takeZ 0 1 bs a 0).2.2

/-- While an instruction is read into block cb at o. -/
structure Ist (w W : World) (p : Nat) (g : Option Nat) (bs : List Int) (a : Nat) (e : Int) (cb o : Nat) (x : Ins) (G : Nat) : Prop where
  rd : Rd W p g bs a e
  bk : ∃ cs, W.heap[cb]? = some (.cells cs 52 (0, 0))
  ia : InsAt W cb o x
  tb : Tbl W G
  kp : Kept (fun k => k = p ∨ k = cb) w W
  ot : ∀ q, (q < o ∨ o + 8 ≤ q) → W.cell? ⟨cb, q, none⟩ = w.cell? ⟨cb, q, none⟩

theorem Rd.other {w : World} {p : Nat} {g : Option Nat} {bs : List Int} {a : Nat} {e : Int} (h : Rd w p g bs a e) {b : Nat} {cs : Array Value} {t : TypeId} (hb : w.heap[b]? = some (.cells cs t (0, 0))) (ht : t ≠ 109) : b ≠ p := by
  obtain ⟨v, h1, _⟩ := h
  rintro rfl
  rw [h1] at hb
  simp at hb
  exact ht hb.2.symm

theorem Tbl.except {w w' : World} {G p cb : Nat} {g : Option Nat} {bs : List Int} {a : Nat} {e : Int} {cs : Array Value} (h : Tbl w G) (hr : Rd w p g bs a e) (hc : w.heap[cb]? = some (.cells cs 52 (0, 0))) (hk : Kept (fun k => k = p ∨ k = cb) w w') : Tbl w' G := by
  have h1 : ∀ (b : Nat) (c2 : Array Value) (t : TypeId), w.heap[b]? = some (.cells c2 t (0, 0)) → t ≠ 109 → t ≠ 52 → w'.heap[b]? = some (.cells c2 t (0, 0)) := by
    intro b c2 t hb t1 t2
    refine (hk.block b (lt_of hb) ?_).trans hb
    rintro (rfl | rfl)
    · exact hr.other hb t1 rfl
    · rw [hc] at hb; simp at hb; exact t2 hb.2.symm
  exact ⟨h1 _ _ _ h.tb (by decide) (by decide), fun i h2 h3 => h1 _ _ _ (h.fb i h2 h3) (by decide) (by decide)⟩

theorem Ist.below {w W W' : World} {p : Nat} {g : Option Nat} {bs : List Int} {a : Nat} {e : Int} {cb o : Nat} {x : Ins} {G : Nat} (h : Ist w W p g bs a e cb o x G) (hb : Below W.heap.size W W') : Ist w W' p g bs a e cb o x G := by
  obtain ⟨cs, hc⟩ := h.bk
  have hl := lt_of hc
  exact ⟨h.rd.below hb, ⟨cs, blk_of hb hc hl⟩, h.ia.same (hb.block _ hl), h.tb.below hb, h.kp.trans (Kept.ofBelow hb) (fun _ _ h => h.elim), fun q hq => (World.cell?_of_block (a := ⟨cb, q, none⟩) (hb.block _ hl)).trans (h.ot q hq)⟩

theorem Ist.read {w W W' : World} {p : Nat} {g : Option Nat} {bs : List Int} {a a2 : Nat} {e e2 : Int} {cb o : Nat} {x : Ins} {G : Nat} (h : Ist w W p g bs a e cb o x G) (hs : RdStep p g W W' bs a2 e2) : Ist w W' p g bs a2 e2 cb o x G := by
  obtain ⟨h1, hk⟩ := hs
  obtain ⟨cs, hc⟩ := h.bk
  have hl := lt_of hc
  have hn := h.rd.other hc (by decide)
  have hb := hk.block _ hl hn
  exact ⟨h1, ⟨cs, hb.trans hc⟩, h.ia.same hb, h.tb.except h.rd hc (hk.mono (fun _ _ h => .inl h)), h.kp.trans hk (fun _ _ h => .inl h), fun q hq => (World.cell?_of_block (a := ⟨cb, q, none⟩) hb).trans (h.ot q hq)⟩

theorem cs_other {w : World} {a b : Addr} {v : Value} (h : a ≠ b) : (w.setCell a v).cell? b = w.cell? b := by
  first | exact World.cell?_setCell_other _ _ _ h | exact World.cell?_setCell_other _ _ _ _ h | exact World.cell?_setCell_other (h := h) ..
theorem cs_same {w : World} {a : Addr} {v u : Value} (h : w.cell? a = some u) : (w.setCell a v).cell? a = some v := by
  first | exact World.cell?_setCell_same _ _ _ h | exact World.cell?_setCell_same _ _ _ _ h | exact World.cell?_setCell_same (h := h) ..

theorem adr_ne {b q r : Nat} (h : q ≠ r) : (⟨b, q, none⟩ : Addr) ≠ ⟨b, r, none⟩ := by
  intro e
  injection e with _ e2 _
  exact h e2

theorem InsAt.set {w : World} {b o : Nat} {x : Ins} (h : InsAt w b o x) (f : Fk) (v : Int) : InsAt (w.setCell ⟨b, o + f.pos, none⟩ (.int .i64 v)) b o (f.set v x) := by
  have ot : ∀ m, m ≠ f.pos → (w.setCell ⟨b, o + f.pos, none⟩ (.int .i64 v)).cell? ⟨b, o + m, none⟩ = w.cell? ⟨b, o + m, none⟩ := fun m hm => cs_other (adr_ne (by omega))
  have o0 : ∀ h : f.pos ≠ 0, (w.setCell ⟨b, o + f.pos, none⟩ (.int .i64 v)).cell? ⟨b, o, none⟩ = w.cell? ⟨b, o, none⟩ := fun hm => cs_other (adr_ne (by omega))
  have c0 : (w.setCell ⟨b, o + f.pos, none⟩ (.int .i64 v)).cell? ⟨b, o, none⟩ = some (.int .i64 x.op) := (o0 (by cases f <;> decide)).trans h.c0
  have c5 := (ot 5 (by cases f <;> decide)).trans h.c5
  have c6 := (ot 6 (by cases f <;> decide)).trans h.c6
  have c7 := (ot 7 (by cases f <;> decide)).trans h.c7
  cases f
  · exact ⟨c0, cs_same h.c1, (ot 2 (by decide)).trans h.c2, (ot 3 (by decide)).trans h.c3, (ot 4 (by decide)).trans h.c4, c5, c6, c7⟩
  · exact ⟨c0, (ot 1 (by decide)).trans h.c1, cs_same h.c2, (ot 3 (by decide)).trans h.c3, (ot 4 (by decide)).trans h.c4, c5, c6, c7⟩
  · exact ⟨c0, (ot 1 (by decide)).trans h.c1, (ot 2 (by decide)).trans h.c2, cs_same h.c3, (ot 4 (by decide)).trans h.c4, c5, c6, c7⟩
  · exact ⟨c0, (ot 1 (by decide)).trans h.c1, (ot 2 (by decide)).trans h.c2, (ot 3 (by decide)).trans h.c3, cs_same h.c4, c5, c6, c7⟩
  · exact ⟨c0, cs_same h.c1, (ot 2 (by decide)).trans h.c2, (ot 3 (by decide)).trans h.c3, (ot 4 (by decide)).trans h.c4, c5, c6, c7⟩
  · exact ⟨c0, (ot 1 (by decide)).trans h.c1, (ot 2 (by decide)).trans h.c2, (ot 3 (by decide)).trans h.c3, cs_same h.c4, c5, c6, c7⟩
  · exact ⟨c0, (ot 1 (by decide)).trans h.c1, (ot 2 (by decide)).trans h.c2, (ot 3 (by decide)).trans h.c3, cs_same h.c4, c5, c6, c7⟩

theorem InsAt.setOp {w : World} {b o : Nat} {x : Ins} (h : InsAt w b o x) (v : Int) : InsAt (w.setCell ⟨b, o, none⟩ (.int .i64 v)) b o { x with op := v } := by
  have ot : ∀ m, m ≠ 0 → (w.setCell ⟨b, o, none⟩ (.int .i64 v)).cell? ⟨b, o + m, none⟩ = w.cell? ⟨b, o + m, none⟩ := fun m hm => cs_other (adr_ne (by omega))
  exact ⟨cs_same h.c0, (ot 1 (by decide)).trans h.c1, (ot 2 (by decide)).trans h.c2, (ot 3 (by decide)).trans h.c3, (ot 4 (by decide)).trans h.c4, (ot 5 (by decide)).trans h.c5, (ot 6 (by decide)).trans h.c6, (ot 7 (by decide)).trans h.c7⟩

theorem InsAt.setV {w : World} {b o : Nat} {x : Ins} (h : InsAt w b o x) (k i : Int) (t : ByteArray) : InsAt (((w.setCell ⟨b, o + 5, none⟩ (.int .i64 k)).setCell ⟨b, o + 6, none⟩ (.int .i64 i)).setCell ⟨b, o + 7, none⟩ (.string t)) b o { x with k := k, i := i, t := t } := by
  have ot : ∀ (w : World) (v : Value) (m n : Nat), n ≠ m → (w.setCell ⟨b, o + n, none⟩ v).cell? ⟨b, o + m, none⟩ = w.cell? ⟨b, o + m, none⟩ := fun w v m n hm => cs_other (adr_ne (by omega))
  have o0 : ∀ (w : World) (v : Value) (n : Nat), n ≠ 0 → (w.setCell ⟨b, o + n, none⟩ v).cell? ⟨b, o, none⟩ = w.cell? ⟨b, o, none⟩ := fun w v n hm => cs_other (adr_ne (by omega))
  refine ⟨?_, ?_, ?_, ?_, ?_, ?_, ?_, ?_⟩
  · rw [o0 _ _ 7 (by decide), o0 _ _ 6 (by decide), o0 _ _ 5 (by decide)]; exact h.c0
  · rw [ot _ _ 1 7 (by decide), ot _ _ 1 6 (by decide), ot _ _ 1 5 (by decide)]; exact h.c1
  · rw [ot _ _ 2 7 (by decide), ot _ _ 2 6 (by decide), ot _ _ 2 5 (by decide)]; exact h.c2
  · rw [ot _ _ 3 7 (by decide), ot _ _ 3 6 (by decide), ot _ _ 3 5 (by decide)]; exact h.c3
  · rw [ot _ _ 4 7 (by decide), ot _ _ 4 6 (by decide), ot _ _ 4 5 (by decide)]; exact h.c4
  · rw [ot _ _ 5 7 (by decide), ot _ _ 5 6 (by decide)]; exact cs_same h.c5
  · rw [ot _ _ 6 7 (by decide)]; exact cs_same ((ot _ _ 6 5 (by decide)).trans h.c6)
  · exact cs_same ((ot _ _ 7 6 (by decide)).trans ((ot _ _ 7 5 (by decide)).trans h.c7))

theorem blk28 {w : World} {b : Nat} {cs : Array Value} (h : w.heap[b]? = some (.cells cs 52 (0, 0))) (q : Nat) (v : Value) : ∃ c2, (w.setCell ⟨b, q, none⟩ v).heap[b]? = some (.cells c2 52 (0, 0)) := by
  simp [World.setCell, Array.getElem?_modify, h]

theorem Ist.put {w W : World} {p : Nat} {g : Option Nat} {bs : List Int} {a : Nat} {e : Int} {cb o : Nat} {x y : Ins} {G : Nat} (h : Ist w W p g bs a e cb o x G) (hg : g ≠ some cb) (m : Nat) (hm : m < 8) (v : Value) (hi : InsAt (W.setCell ⟨cb, o + m, none⟩ v) cb o y) :
    Ist w (W.setCell ⟨cb, o + m, none⟩ v) p g bs a e cb o y G := by
  obtain ⟨cs, hc⟩ := h.bk
  have hk : Kept (fun k => k = cb) W (W.setCell ⟨cb, o + m, none⟩ v) := Kept.setCell (p := ⟨cb, o + m, none⟩) (Kept.refl (fun k => k = cb) W) (fun _ => rfl) v
  exact ⟨h.rd.kept hk (fun e => h.rd.other hc (by decide) e.symm) (fun k hk e => hg (by rw [hk, e])), blk28 hc _ v, hi, h.tb.except h.rd hc (hk.mono (fun _ _ h => .inr h)), h.kp.trans hk (fun _ _ h => .inr h),
    fun q hq => (cs_other (adr_ne (by omega))).trans (h.ot q hq)⟩

end Go.Proofs.Ytdnlfacfleemeaa

namespace Go.Proofs.Ytdnlfacfleemeaa
open Go.RowKit Go.Lib

theorem InsAt.setV1 {w : World} {b o : Nat} {x : Ins} (h : InsAt w b o x) {k : Int} : InsAt (w.setCell ⟨b, o + 5, none⟩ (.int .i64 k)) b o { x with k := k } := by
  have ot : ∀ (v : Value) (m n : Nat), n ≠ m → (w.setCell ⟨b, o + n, none⟩ v).cell? ⟨b, o + m, none⟩ = w.cell? ⟨b, o + m, none⟩ := fun v m n hm => cs_other (adr_ne (by omega))
  exact ⟨(cs_other (adr_ne (by omega))).trans h.c0, (ot _ 1 5 (by decide)).trans h.c1, (ot _ 2 5 (by decide)).trans h.c2, (ot _ 3 5 (by decide)).trans h.c3, (ot _ 4 5 (by decide)).trans h.c4, cs_same h.c5, (ot _ 6 5 (by decide)).trans h.c6, (ot _ 7 5 (by decide)).trans h.c7⟩

theorem InsAt.setV2 {w : World} {b o : Nat} {x : Ins} (h : InsAt w b o x) {k i : Int} : InsAt ((w.setCell ⟨b, o + 5, none⟩ (.int .i64 k)).setCell ⟨b, o + 6, none⟩ (.int .i64 i)) b o { x with k := k, i := i } := by
  have h1 := h.setV1 (k := k)
  have ot : ∀ (w : World) (v : Value) (m n : Nat), n ≠ m → (w.setCell ⟨b, o + n, none⟩ v).cell? ⟨b, o + m, none⟩ = w.cell? ⟨b, o + m, none⟩ := fun w v m n hm => cs_other (adr_ne (by omega))
  exact ⟨(cs_other (adr_ne (by omega))).trans h1.c0, (ot _ _ 1 6 (by decide)).trans h1.c1, (ot _ _ 2 6 (by decide)).trans h1.c2, (ot _ _ 3 6 (by decide)).trans h1.c3, (ot _ _ 4 6 (by decide)).trans h1.c4, (ot _ _ 5 6 (by decide)).trans h1.c5, cs_same h1.c6, (ot _ _ 7 6 (by decide)).trans h1.c7⟩

/-- What takeInstr leaves. -/
def TIPost (p : Nat) (g : Option Nat) (bs : List Int) (cb o G : Nat) (w : World) (r : Except Int (Ins × Nat)) (e : Ending) (w' : World) : Prop :=
  Kept (fun k => k = p ∨ k = cb) w w' ∧ match r with
  | .ok (x, a) => e = .returned (.tuple #[]) ∧ Ist w w' p g bs a 0 cb o x G
  | .error E => e = refu E

theorem ist_start {w : World} {p : Nat} {g : Option Nat} {bs : List Int} {a : Nat} {cb o G : Nat} {x : Ins} {cs : Array Value} (h : Rd w p g bs a 0) (hc : w.heap[cb]? = some (.cells cs 52 (0, 0))) (hi : InsAt w cb o x) (ht : Tbl w G) : Ist w w p g bs a 0 cb o x G :=
  ⟨h, ⟨cs, hc⟩, hi, ht, Kept.refl _ _, fun _ _ => rfl⟩

/-- The cells of an instruction, one by one, and that they may be written. -/
theorem Ist.cells {w W : World} {p : Nat} {g : Option Nat} {bs : List Int} {a : Nat} {e : Int} {cb o : Nat} {x : Ins} {G : Nat} (h : Ist w W p g bs a e cb o x G) :
    W.cell? ⟨cb, o, none⟩ = some (.int .i64 x.op) ∧ W.cell? ⟨cb, o + 5, none⟩ = some (.int .i64 x.k) ∧ W.cell? ⟨cb, o + 6, none⟩ = some (.int .i64 x.i) ∧ W.cell? ⟨cb, o + 7, none⟩ = some (.string x.t) ∧ (∀ q, W.frozen? ⟨cb, q, none⟩ = false) ∧ cb < W.heap.size := by
  obtain ⟨cs, hc⟩ := h.bk
  exact ⟨h.ia.c0, h.ia.c5, h.ia.c6, h.ia.c7, fun q => by simp [World.frozen?, hc], lt_of hc⟩

theorem InsAt.at {w : World} {b o : Nat} {x : Ins} (h : InsAt w b o x) (f : Fk) : w.cell? ⟨b, o + f.pos, none⟩ = some (.int .i64 (f.get x)) := by
  cases f
  · exact h.c1
  · exact h.c2
  · exact h.c3
  · exact h.c4
  · exact h.c1
  · exact h.c4
  · exact h.c4

theorem Fk.pos_lt (f : Fk) : f.pos < 8 := by cases f <;> decide

theorem below_ad (w : World) (o : Obj) : Below w.heap.size w (w.alloc o).drew := by
  have h := below1 w o
  exact ⟨h.os, h.tape, h.output, h.size, h.block⟩

theorem Rd.plt {w : World} {p : Nat} {g : Option Nat} {bs : List Int} {a : Nat} {e : Int} (h : Rd w p g bs a e) : p < w.heap.size := by
  obtain ⟨v, hv, _⟩ := h
  exact lt_of hv

theorem rd_new {wr w4 : World} {p : Nat} {g : Option Nat} {bs : List Int} {a a2 : Nat} {e e2 : Int} {o : Obj} (h : Rd wr p g bs a e) (hs : RdStep p g (wr.alloc o).drew w4 bs a2 e2) : w4.heap[wr.heap.size]? = some o := by
  have hp := h.plt
  have b1 : (wr.alloc o).drew.heap[wr.heap.size]? = some o := heap_alloc_new wr o
  exact (hs.2.block _ (lt_of b1) (by omega)).trans b1

theorem rd_blk {wr w4 : World} {p q : Nat} {g : Option Nat} {bs : List Int} {a a2 : Nat} {e e2 : Int} {o o2 : Obj} (_h : Rd wr p g bs a e) (hs : RdStep p g (wr.alloc o).drew w4 bs a2 e2) (hq : wr.heap[q]? = some o2) (hn : q ≠ p) : w4.heap[q]? = some o2 := by
  have b1 : (wr.alloc o).drew.heap[q]? = some o2 := (Below.heap_alloc _ _ _ (lt_of hq)).trans hq
  exact (hs.2.block _ (lt_of b1) hn).trans b1

theorem dn_blk {w4 w5 : World} {cb m q : Nat} {v : Value} {o2 : Obj} (h : DN (w4.setCell ⟨cb, m, none⟩ v) w5) (hq : w4.heap[q]? = some o2) (hn : q ≠ cb) : w5.heap[q]? = some o2 := by
  obtain ⟨n, rfl⟩ := h
  exact (Below.heap_setCell _ _ _ _ hn).trans hq

set_option maxRecDepth 100000 in
set_option maxHeartbeats 8000000 in
theorem takeInstr_any (p : Nat) (g : Option Nat) (bs : List Int) (a : Nat) (most : Int) (cb o G : Nat) (cs : Array Value) (w : World) (h : Rd w p g bs a 0) (hc : w.heap[cb]? = some (.cells cs 52 (0, 0))) (hi : InsAt w cb o (zIns 0)) (ht : Tbl w G)
    (hg : ∀ k, g = some k → k < w.heap.size) (hgc : g ≠ some cb) (hn0 : -9223372036854775808 ≤ most) (hn1 : most < 9223372036854775808) :
    Calls Try.prog 86 #[.pointer (some ⟨p, 0, none⟩), .slice (some ⟨G + 15, 0, none⟩) 17 17, .int .i64 most, .pointer (some ⟨cb, o, none⟩)] w (TIPost p g bs cb o G w (tkIns bs most a)) := by
  have H0 := hid (ist_start h hc hi ht)
  have HR := hid (rbyte_any p g bs a 0 w h)
  have hbd := takeZ_bd 0 1 bs a 0 h.oct
  have HG := hid (And.intro hg hgc)
  obtain ⟨b0, b5, b6, b7, bz, bl⟩ := H0.out.cells
  have hgc' := hgc
  unfold tkIns
  obtain ⟨⟨⟨op, u⟩, a1, e1⟩, htk⟩ : ∃ t, takeZ 0 1 bs a 0 = t := ⟨_, rfl⟩
  rw [htk] at HR hbd ⊢
  dsimp only at HR hbd ⊢
  have hop0 : 0 ≤ op := hbd.1
  have hop1 : op < 256 := hbd.2.2.2 rfl rfl
  clear h hc hi ht hg htk hbd hgc
  by_cases he : e1 = 0
  · subst he
    rw [if_pos rfl]
    by_cases hop : 1 ≤ op ∧ op ≤ 16
    · rw [if_pos hop]
      obtain ⟨R, hR⟩ : ∃ R, R = tkFs bs (opF (opN op)) (zIns op) a1 := ⟨_, rfl⟩
      rw [← hR]
      have HRR := hid hR
      have HO := hid hop
      clear hR hop
      obtain ⟨fs, hfs⟩ : ∃ fs, fs = opF (opN op) := ⟨_, rfl⟩
      obtain ⟨ao, hS, -⟩ := H0.out.tb.fs (opN op)
      have HS := hid hS
      have hfl : fs.length ≤ 100 := by rw [hfs]; exact opF_len _
      have HFS := hid hfs
      rw [← hfs] at HS HRR
      obtain ⟨vv, hvv⟩ : ∃ vv, vv = (opN op == 1) := ⟨_, rfl⟩
      rw [← hvv]
      have HVV := hid hvv
      obtain ⟨Z, hZ⟩ : ∃ Z, Z = tkAfter bs most vv R := ⟨_, rfl⟩
      rw [← hZ]
      have HZ := hid hZ
      clear hfs hS hvv hZ
      go_enter Try.func86, Try.ntmps86
      go_wp2_with (first
        | (go_at_call 69
           refine HR.out.mono ?_
           rintro e w1 ⟨h1, rfl⟩
           have H1 := hid (H0.out.read h1)
           obtain ⟨b0, b5, b6, b7, bz, bl⟩ := H1.out.cells
           clear h1)
        | (go_at_call 85
           have H2 : Hid (Ist w (w1.setCell ⟨cb, o, none⟩ (.int .i64 op)) p g bs a1 0 cb o (zIns op) G) := hid (H1.out.put hgc' 0 (by decide) (.int .i64 op) (H1.out.ia.setOp op))
           refine (taken_ok p g bs a1 _ H2.out.rd).mono ?_
           rintro e w2 ⟨rfl, h2⟩
           have H3 := hid (H2.out.below h2.below)
           obtain ⟨b0, b5, b6, b7, bz, bl⟩ := H3.out.cells
           clear h2)
        | (go_at_call 42
           refine (find_any G op _ H3.out.tb).mono ?_
           rintro e w3 ⟨rfl, hb3⟩
           rw [findV, HS.out, ← HVV.out, decide_eq_true HO.out]
           have H4 := hid (And.intro (H3.out.below (hb3.trans ((below1 w3 (.cells #[.slice ao fs.length fs.length, .bool vv] 97)).mono hb3.size))) (heap_alloc_new w3 (.cells #[.slice ao fs.length fs.length, .bool vv] 97)))
           obtain ⟨b0, b5, b6, b7, bz, bl⟩ := (H3.out.below hb3).cells
           clear hb3))
      refine cutG (fun W => Ist w W p g bs a1 0 cb o (zIns op) G ∧ W.heap[w3.heap.size]? = some (.cells #[.slice ao fs.length fs.length, .bool vv] 97 (0, 0))) H4.out ?_
      intro W0 H5
      have H5 := hid H5
      clear H4 H3 H2 H1 H0 HR b0 b5 b6 b7 bz bl
      obtain ⟨q0, hq0⟩ : ∃ q0, q0 = w3.heap.size := ⟨_, rfl⟩
      rw [← hq0] at H5 ⊢
      clear hq0
      go_loopw [36] (fun ix wr => ∃ (n : Nat) (y : Ins) (a2 : Nat), n ≤ fs.length ∧ ix = .int .i64 n ∧ Hid (Ist w wr p g bs a2 0 cb o y G) ∧ Hid (wr.heap[q0]? = some (.cells #[.slice ao fs.length fs.length, .bool vv] 97 (0, 0))) ∧ Hid (R = tkFs bs (fs.drop n) y a2)) (fun ix _ => fs.length - (intOf ix).toNat)
      case atStart => exact ⟨0, zIns op, a1, Nat.zero_le _, rfl, hid H5.out.1, hid H5.out.2, HRR⟩
      case round =>
        clear H5 HRR
        obtain ⟨n, y, a2, hn, rfl, hI, hQ, hK⟩ := hrel
        obtain ⟨d0, d1, -⟩ := wfacts2 hQ.out
        have k2 := lt_of hQ.out
        by_cases hlt : n < fs.length
        · obtain ⟨f, hf⟩ : ∃ f, fs[n]? = some f := ⟨_, List.getElem?_eq_getElem hlt⟩
          have hfsat := hI.out.tb.fs (opN op)
          rw [← HFS.out, HS.out] at hfsat
          obtain ⟨ao', hao, hS2⟩ := hfsat
          injection hao with hao _ _
          subst hao
          obtain ⟨b, rfl, hblk⟩ := hS2 (by intro e; rw [e] at hlt; simp at hlt)
          obtain ⟨T0, T1, T2, T3⟩ := fs_at hblk n f hf
          have hbl := lt_of hblk
          have hlt' : (n : Int) < (fs.length : Int) := by omega
          have hdrop : fs.drop n = f :: fs.drop (n + 1) := by
            rw [List.drop_eq_getElem_cons hlt]
            congr 1
            have := List.getElem?_eq_getElem hlt
            rw [hf] at this
            exact (Option.some.inj this).symm
          rw [hdrop] at hK
          have hk2 := hK.out
          rw [tkFs] at hk2
          have hcp := f.enter_part
          have hct := f.enter_tak
          have hp := hid (part_at f cb o)
          have ht := hid (fun W hW => takF_any f p g bs a2 W hW)
          have HPP := hid (fun (W : World) (e : Int) (a3 : Nat) (hW : Ist w W p g bs a3 e cb o y G) (v : Int) => Ist.put hW hgc' f.pos f.pos_lt (.int .i64 v) (hW.ia.set f v))
          have HAT := hid (fun (W : World) (e : Int) (a3 : Nat) (hW : Ist w W p g bs a3 e cb o y G) => hW.ia.at f)
          obtain ⟨⟨⟨v, u3⟩, a3, e3⟩, htk⟩ : ∃ t, tkf f bs a2 = t := ⟨_, rfl⟩
          rw [htk] at hk2 ht
          dsimp only at hk2 ht
          obtain ⟨P, hP⟩ : ∃ P, P = f.part := ⟨_, rfl⟩
          obtain ⟨F, hF⟩ : ∃ F, F = f.fit := ⟨_, rfl⟩
          obtain ⟨q, hq⟩ : ∃ q, q = f.pos := ⟨_, rfl⟩
          obtain ⟨L, hL⟩ : ∃ L, L = f.lay := ⟨_, rfl⟩
          obtain ⟨M, hM⟩ : ∃ M, M = f.tak := ⟨_, rfl⟩
          rw [← hP] at T0 hcp hp
          rw [← hF] at T1
          rw [← hL] at T2
          rw [← hM] at T3 hct ht
          rw [← hq] at hp HPP HAT
          have HK2 := hid hk2
          have hcn : wr.heap.size ≠ cb := Nat.ne_of_gt hI.out.cells.2.2.2.2.2
          clear hf hblk hS2 hP hF hq hL hM htk hdrop hK hk2
          have hnq : q0 ≠ p ∧ q0 ≠ cb := ⟨hI.out.rd.other hQ.out (by decide), by
            intro e
            obtain ⟨c3, hc3⟩ := hI.out.bk
            have := hQ.out
            rw [e, hc3] at this
            simp at this⟩
          by_cases he3 : e3 = 0
          · subst he3
            go_wp2_with fail
            go_region_held (fun w' => w'.cell? ⟨wr.heap.size, 0, none⟩ = some (fn P) ∧ w'.cell? ⟨wr.heap.size, 3, none⟩ = some (fn M)) (go_keep) (first
              | (refine (hp.out _).mono ?_
                 rintro e w4 ⟨rfl, e4⟩
                 rw [e4]
                 clear e4 w4)
              | (refine (ht.out _ (hI.out.below (below_ad wr _)).rd).mono ?_
                 rintro e w4 ⟨h4, rfl⟩
                 have H4 := hid (And.intro ((hI.out.below (below_ad wr _)).read h4) (rd_blk hI.out.rd h4 hQ.out hnq.1))
                 obtain ⟨z0, z1, z2, z3⟩ := wfacts4 (rd_new hI.out.rd h4)
                 have z4 := HAT.out w4 _ a3 H4.out.1
                 have z5 := H4.out.1.cells.2.2.2.2.1
                 have z6 : cb ≠ wr.heap.size := hcn.symm
                 clear h4))
            go_wp2_with fail
            have H5 := hid (HPP.out w4 0 a3 H4.out.1 v)
            refine (taken_ok p g bs a3 _ H5.out.rd).mono ?_
            rintro e w5 ⟨rfl, h5⟩
            have H6 := hid (And.intro (H5.out.below h5.below) (dn_blk h5 H4.out.2 hnq.2))
            have HK3 := hid (HK2.out.trans (if_pos trivial))
            clear h5 H5 H4
            go_wp2
            go_roundw
            case rel => exact ⟨n + 1, f.set v y, a3, by omega, by go_num, hid H6.out.1, hid H6.out.2, HK3⟩
            case measure => simp [intOf]; omega
          · go_wp2_with fail
            go_region_held (fun w' => w'.cell? ⟨wr.heap.size, 0, none⟩ = some (fn P) ∧ w'.cell? ⟨wr.heap.size, 3, none⟩ = some (fn M)) (go_keep) (first
              | (refine (hp.out _).mono ?_
                 rintro e w4 ⟨rfl, e4⟩
                 rw [e4]
                 clear e4 w4)
              | (refine (ht.out _ (hI.out.below (below_ad wr _)).rd).mono ?_
                 rintro e w4 ⟨h4, rfl⟩
                 have H4 := hid (And.intro ((hI.out.below (below_ad wr _)).read h4) (rd_blk hI.out.rd h4 hQ.out hnq.1))
                 obtain ⟨z0, z1, z2, z3⟩ := wfacts4 (rd_new hI.out.rd h4)
                 have z4 := HAT.out w4 _ a3 H4.out.1
                 have z5 := H4.out.1.cells.2.2.2.2.1
                 have z6 : cb ≠ wr.heap.size := hcn.symm
                 clear h4))
            go_wp2_with fail
            have H5 := hid (HPP.out w4 e3 a3 H4.out.1 v)
            refine (taken_no p g bs a3 e3 he3 _ H5.out.rd).mono ?_
            rintro e w5 ⟨rfl, h5⟩
            have H6 := hid (H5.out.below h5.below)
            have HK3 := hid (HK2.out.trans (if_neg he3))
            clear h5 H5 H4
            go_wp2
            refine ⟨rfl, H6.out.kp, ?_⟩
            rw [HZ.out, HK3.out]
            rfl
        · have hdrop : fs.drop n = [] := List.drop_eq_nil_of_le (by omega)
          rw [hdrop] at hK
          have hk2 := hK.out
          rw [tkFs] at hk2
          have HK2 := hid hk2
          clear hK hk2 hdrop
          cases vv with
          | false =>
            go_wp2
            go_end0
            refine ⟨hI.out.kp, ?_⟩
            rw [HZ.out, HK2.out]
            dsimp only [tkAfter]
            rw [if_neg Bool.false_ne_true]
            exact ⟨rfl, hI.out⟩
          | true =>
            have HV := hid (takeValue_any p g bs a2 most wr hI.out.rd (fun k hk => Nat.lt_of_lt_of_le (HG.out.1 k hk) hI.out.kp.size) hn0 hn1)
            unfold TVPost at HV
            obtain ⟨T, hT⟩ : ∃ T, T = tkVal bs most a2 := ⟨_, rfl⟩
            rw [← hT] at HV
            have HT := hid hT
            clear hT
            cases T with
            | error E =>
              dsimp only at HV
              go_wp2_with fail
              refine HV.out.mono ?_
              rintro e w4 ⟨h4, rfl⟩
              have H4 := hid h4
              clear h4
              go_wp2
              refine ⟨rfl, hI.out.kp.trans H4.out (fun _ _ h => .inl h), ?_⟩
              rw [HZ.out, HK2.out]
              dsimp only [tkAfter]
              rw [if_pos rfl, ← HT.out]
            | ok r =>
              obtain ⟨⟨dk, di, dt⟩, a3⟩ := r
              dsimp only at HV
              go_wp2_with fail
              refine HV.out.mono ?_
              rintro e w4 ⟨h4, rfl, hr4⟩
              have H4 := hid (hI.out.read ⟨hr4, h4⟩)
              obtain ⟨b0, b5, b6, b7, bz, bl⟩ := H4.out.cells
              clear h4 hr4
              go_wp2
              go_end0
              have HP := Ist.put (Ist.put (Ist.put H4.out hgc' 5 (by decide) (.int .i64 dk) H4.out.ia.setV1) hgc' 6 (by decide) (.int .i64 di) H4.out.ia.setV2) hgc' 7 (by decide) (.string (mkStr dt)) (H4.out.ia.setV dk di (mkStr dt))
              refine ⟨HP.kp, ?_⟩
              rw [HZ.out, HK2.out]
              dsimp only [tkAfter]
              rw [if_pos rfl, ← HT.out]
              exact ⟨rfl, HP⟩
    · rw [if_neg hop]
      obtain ⟨ao, n2, c2, hS⟩ := opS_form G (opN op)
      have HS := hid hS
      have HO := hid hop
      clear hS hop
      go_enter Try.func86, Try.ntmps86
      go_wp2_with (first
        | (go_at_call 69
           refine HR.out.mono ?_
           rintro e w1 ⟨h1, rfl⟩
           have H1 := hid (H0.out.read h1)
           obtain ⟨b0, b5, b6, b7, bz, bl⟩ := H1.out.cells
           clear h1)
        | (go_at_call 85
           have H2 : Hid (Ist w (w1.setCell ⟨cb, o, none⟩ (.int .i64 op)) p g bs a1 0 cb o (zIns op) G) := hid (H1.out.put hgc' 0 (by decide) (.int .i64 op) (H1.out.ia.setOp op))
           refine (taken_ok p g bs a1 _ H2.out.rd).mono ?_
           rintro e w2 ⟨rfl, h2⟩
           have H3 := hid (H2.out.below h2.below)
           obtain ⟨b0, b5, b6, b7, bz, bl⟩ := H3.out.cells
           clear h2)
        | (go_at_call 42
           refine (find_any G op _ H3.out.tb).mono ?_
           rintro e w3 ⟨rfl, hb3⟩
           rw [findV, HS.out, decide_eq_false HO.out]
           have H4 := hid (H3.out.below (hb3.trans ((below1 w3 (.cells #[.slice ao n2 c2, .bool (opN op == 1)] 97)).mono hb3.size)))
           clear hb3))
      exact ⟨rfl, H4.out.kp, rfl⟩
  · rw [if_neg he]
    go_enter Try.func86, Try.ntmps86
    go_wp2_with (first
      | (go_at_call 69
         refine HR.out.mono ?_
         rintro e w1 ⟨h1, rfl⟩
         have H1 := hid (H0.out.read h1)
         obtain ⟨b0, b5, b6, b7, bz, bl⟩ := H1.out.cells
         clear h1)
      | (go_at_call 85
         have H2 : Hid (Ist w (w1.setCell ⟨cb, o, none⟩ (.int .i64 op)) p g bs a1 e1 cb o (zIns op) G) := hid (H1.out.put hgc' 0 (by decide) (.int .i64 op) (H1.out.ia.setOp op))
         refine (taken_no p g bs a1 e1 he _ H2.out.rd).mono ?_
         rintro e w2 ⟨rfl, h2⟩
         have H3 := hid (H2.out.below h2.below)
         clear h2))
    exact ⟨rfl, H3.out.kp, rfl⟩

end Go.Proofs.Ytdnlfacfleemeaa

namespace Go.Proofs.Ytdnlfacfleemeaa
open Go.RowKit Go.Lib

/-- The instructions read. -/
def tkCode (bs : List Int) (most : Int) : Nat → Nat → Except Int (List Ins × Nat)
  | 0, a => .ok ([], a)
  | n + 1, a => match tkIns bs most a with
    | .error E => .error E
    | .ok (x, a2) => match tkCode bs most n a2 with
      | .error E => .error E
      | .ok (xs, a3) => .ok (x :: xs, a3)

def pre (ys : List Ins) : Except Int (List Ins × Nat) → Except Int (List Ins × Nat)
  | .error E => .error E
  | .ok (xs, a) => .ok (ys ++ xs, a)

theorem pre_ok (bs : List Int) (most : Int) (n a : Nat) (ys : List Ins) (x : Ins) (a2 : Nat) (h : tkIns bs most a = .ok (x, a2)) : pre ys (tkCode bs most (n + 1) a) = pre (ys ++ [x]) (tkCode bs most n a2) := by
  rw [tkCode, h]
  dsimp only
  cases tkCode bs most n a2 with
  | error E => rfl
  | ok r => obtain ⟨xs, a3⟩ := r; simp [pre]

theorem pre_no (bs : List Int) (most : Int) (n a : Nat) (ys : List Ins) (E : Int) (h : tkIns bs most a = .error E) : pre ys (tkCode bs most (n + 1) a) = .error E := by
  rw [tkCode, h]
  rfl

/-- Behind the instructions. -/
def tkEnd (bs : List Int) (nm : List Int) (ar : Int) : Except Int (List Ins × Nat) → Except Int (List Int × Int × List Ins)
  | .error E => .error E
  | .ok (xs, a) => if endZ bs.length a 0 = 0 then .ok (nm, ar, xs) else .error (endZ bs.length a 0)

/-- A procedure read, whether Check takes it or not. -/
def tkProc (bs : List Int) : Except Int (List Int × Int × List Ins) :=
  if (takeZ 1 0 bs (takeZ 1 0 bs (takeZ 3 32 bs 0 0).2.1 (takeZ 3 32 bs 0 0).2.2).2.1 (takeZ 1 0 bs (takeZ 3 32 bs 0 0).2.1 (takeZ 3 32 bs 0 0).2.2).2.2).2.2 = 0 then
    if (takeZ 1 0 bs (takeZ 1 0 bs (takeZ 3 32 bs 0 0).2.1 (takeZ 3 32 bs 0 0).2.2).2.1 (takeZ 1 0 bs (takeZ 3 32 bs 0 0).2.1 (takeZ 3 32 bs 0 0).2.2).2.2).1.1 ≤ 64 then
      tkEnd bs (takeZ 3 32 bs 0 0).1.2 (takeZ 1 0 bs (takeZ 3 32 bs 0 0).2.1 (takeZ 3 32 bs 0 0).2.2).1.1
        (tkCode bs bs.length (takeZ 1 0 bs (takeZ 1 0 bs (takeZ 3 32 bs 0 0).2.1 (takeZ 3 32 bs 0 0).2.2).2.1 (takeZ 1 0 bs (takeZ 3 32 bs 0 0).2.1 (takeZ 3 32 bs 0 0).2.2).2.2).1.1.toNat
          (takeZ 1 0 bs (takeZ 1 0 bs (takeZ 3 32 bs 0 0).2.1 (takeZ 3 32 bs 0 0).2.2).2.1 (takeZ 1 0 bs (takeZ 3 32 bs 0 0).2.1 (takeZ 3 32 bs 0 0).2.2).2.2).2.1)
    else .error 4
  else .error (takeZ 1 0 bs (takeZ 1 0 bs (takeZ 3 32 bs 0 0).2.1 (takeZ 3 32 bs 0 0).2.2).2.1 (takeZ 1 0 bs (takeZ 3 32 bs 0 0).2.1 (takeZ 3 32 bs 0 0).2.2).2.2).2.2

def zCells : Array Value := #[.int .i64 0, .int .i64 0, .int .i64 0, .int .i64 0, .int .i64 0, .int .i64 0, .int .i64 0, .string emp]

theorem Try.info52 : (Try.prog.info? 52).map (fun i => (i.zero.map Value.cells, i.size, i.bytes)) = some (some zCells, 8, 72) := by kernel_rfl

theorem made_at (n j : Nat) (m : Nat) (hj : j < n) (hm : m < 8) : (madeCells zCells (n * 8))[j * 8 + m]? = zCells[m]? := by
  have h1 : j * 8 + m < n * 8 := by omega
  have h2 : (j * 8 + m) % 8 = m := by omega
  unfold madeCells
  rw [Array.getElem?_map, Array.getElem?_range, if_pos h1, Option.map_some, show zCells.size = 8 from rfl, h2]
  rcases (show m = 0 ∨ m = 1 ∨ m = 2 ∨ m = 3 ∨ m = 4 ∨ m = 5 ∨ m = 6 ∨ m = 7 by omega) with rfl | rfl | rfl | rfl | rfl | rfl | rfl | rfl <;> rfl

theorem make28 (n : Nat) (hn : n ≤ 64) (w : World) : (Instr.makeSlice 25 (.int .i64 n) (.int .i64 n)).run Try.prog w = .ok (.slice (some ⟨w.heap.size, 0, none⟩) n n) (w.alloc (.cells (madeCells zCells (n * 8)) 52)) := by
  have h := Try.info52
  cases hi : Try.prog.info? 52 with
  | none => rw [hi] at h; simp at h
  | some i =>
    rw [hi] at h
    simp only [Option.map_some, Option.some.injEq, Prod.mk.injEq] at h
    obtain ⟨h1, h2, h3⟩ := h
    cases hz : i.zero with
    | none => rw [hz] at h1; simp at h1
    | some z =>
      rw [hz, Option.map_some, Option.some.injEq] at h1
      have := run_make (P := Try.prog) w 25 52 i z Try.underlying25 hi hz .i64 .i64 (n : Int) (n : Int) (by omega) (Int.le_refl _) (by rw [h3]; omega) (by omega)
      rw [h1, h2] at this
      simpa using this

theorem made_ins (w : World) (n j : Nat) (hj : j < n) : InsAt (w.alloc (.cells (madeCells zCells (n * 8)) 52)) w.heap.size (j * 8) (zIns 0) := by
  have hb := heap_alloc_new w (.cells (madeCells zCells (n * 8)) 52)
  have h : ∀ m, m < 8 → (w.alloc (.cells (madeCells zCells (n * 8)) 52)).cell? ⟨w.heap.size, j * 8 + m, none⟩ = zCells[m]? := by
    intro m hm
    rw [cell_of_row _ _ _ _ _ _ hb, made_at n j m hj hm]
  exact ⟨h 0 (by decide), h 1 (by decide), h 2 (by decide), h 3 (by decide), h 4 (by decide), h 5 (by decide), h 6 (by decide), h 7 (by decide)⟩

/-- While a procedure is taken. -/
structure Tks (w W : World) (p : Nat) (g : Option Nat) (bs : List Int) (a : Nat) (q4 cb N : Nat) (ys : List Ins) (nm : ByteArray) (ar : Int) (G : Nat) : Prop where
  r0 : W.heap[w.heap.size]? = some (po emp 0 (.slice none 0 0))
  r4 : W.heap[q4]? = some (po nm ar (.slice (some ⟨cb, 0, none⟩) N N))
  rd : Rd W p g bs a 0
  bk : ∃ cs, W.heap[cb]? = some (.cells cs 52 (0, 0))
  tb : Tbl W G
  c1 : ∀ (j : Nat) (x : Ins), ys[j]? = some x → InsAt W cb (j * 8) x
  c2 : ∀ (j : Nat), ys.length ≤ j → j < N → InsAt W cb (j * 8) (zIns 0)
  hb : Below w.heap.size w W
  lt : w.heap.size < p ∧ w.heap.size < cb ∧ w.heap.size < q4

theorem Tks.below {w W W' : World} {p : Nat} {g : Option Nat} {bs : List Int} {a : Nat} {q4 cb N : Nat} {ys : List Ins} {nm : ByteArray} {ar : Int} {G : Nat} (h : Tks w W p g bs a q4 cb N ys nm ar G) (hb : Below W.heap.size W W') : Tks w W' p g bs a q4 cb N ys nm ar G := by
  obtain ⟨cs, hc⟩ := h.bk
  have hl := hb.block _ (lt_of hc)
  exact ⟨blk_of hb h.r0 (lt_of h.r0), blk_of hb h.r4 (lt_of h.r4), h.rd.below hb, ⟨cs, hl.trans hc⟩, h.tb.below hb, fun j x hx => (h.c1 j x hx).same hl, fun j h1 h2 => (h.c2 j h1 h2).same hl, below_on h.hb hb, h.lt⟩

theorem InsAt.moved {w w' : World} {b o : Nat} {x : Ins} (h : InsAt w b o x) (hq : ∀ m, m < 8 → w'.cell? ⟨b, o + m, none⟩ = w.cell? ⟨b, o + m, none⟩) : InsAt w' b o x :=
  ⟨(hq 0 (by decide)).trans h.c0, (hq 1 (by decide)).trans h.c1, (hq 2 (by decide)).trans h.c2, (hq 3 (by decide)).trans h.c3, (hq 4 (by decide)).trans h.c4, (hq 5 (by decide)).trans h.c5, (hq 6 (by decide)).trans h.c6, (hq 7 (by decide)).trans h.c7⟩

theorem Tks.blocks {w W W' : World} {p : Nat} {g : Option Nat} {bs : List Int} {a : Nat} {q4 cb N : Nat} {ys : List Ins} {nm : ByteArray} {ar : Int} {G : Nat} (h : Tks w W p g bs a q4 cb N ys nm ar G) (hk : Kept (fun k => k = p ∨ k = cb) W W') :
    W'.heap[w.heap.size]? = some (po emp 0 (.slice none 0 0)) ∧ W'.heap[q4]? = some (po nm ar (.slice (some ⟨cb, 0, none⟩) N N)) ∧ Below w.heap.size w W' := by
  obtain ⟨cs, hc⟩ := h.bk
  refine ⟨(hk.block _ (lt_of h.r0) ?_).trans h.r0, (hk.block _ (lt_of h.r4) ?_).trans h.r4, h.hb.trans (hk.below h.hb.size ?_)⟩
  · have := h.lt; omega
  · rintro (e | e)
    · exact h.rd.other h.r4 (by decide) e
    · have := h.r4; rw [e, hc] at this; simp at this
  · have := h.lt; intro k h1 h2; omega

theorem Tks.step {w W W' : World} {p : Nat} {g : Option Nat} {bs : List Int} {a a2 : Nat} {q4 cb N : Nat} {ys : List Ins} {nm : ByteArray} {ar : Int} {G : Nat} {x : Ins} (h : Tks w W p g bs a q4 cb N ys nm ar G) (hi : Ist W W' p g bs a2 0 cb (ys.length * 8) x G) : Tks w W' p g bs a2 q4 cb N (ys ++ [x]) nm ar G := by
  obtain ⟨h1, h2, h3⟩ := h.blocks hi.kp
  refine ⟨h1, h2, hi.rd, hi.bk, hi.tb, ?_, ?_, h3, h.lt⟩
  · intro j y hy
    by_cases hj : j < ys.length
    · rw [List.getElem?_append_left hj] at hy
      exact (h.c1 j y hy).moved (fun m hm => hi.ot _ (by omega))
    · have hlen := (List.getElem?_eq_some_iff.1 hy).1
      simp at hlen
      obtain rfl : j = ys.length := by omega
      simp at hy
      subst hy
      exact hi.ia
  · intro j h1 h2
    simp at h1
    exact (h.c2 j (by omega) h2).moved (fun m hm => hi.ot _ (by omega))

/-- What take leaves. -/
def TKPost (w : World) (r : Except Int (List Int × Int × List Ins)) (e : Ending) (w' : World) : Prop :=
  Below w.heap.size w w' ∧ match r with
  | .ok (nm, ar, xs) => ∃ cb, e = .returned (.agg #[.string (mkStr nm), .int .i64 ar, .slice (some ⟨cb, 0, none⟩) xs.length xs.length]) ∧ w.heap.size ≤ cb ∧ (∃ cs, w'.heap[cb]? = some (.cells cs 52 (0, 0))) ∧ ∀ (j : Nat) (x : Ins), xs[j]? = some x → InsAt w' cb (j * 8) x
  | .error E => e = refu E

end Go.Proofs.Ytdnlfacfleemeaa
