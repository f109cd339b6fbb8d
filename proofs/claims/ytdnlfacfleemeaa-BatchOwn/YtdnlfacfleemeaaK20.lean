import Derived.Test.YtdnlfacfleemeaaK16
import Derived.Test.YtdnlfacfleemeaaK17
import Derived.Test.YtdnlfacfleemeaaK19
import Derived.Lib.SmallJoins
namespace Go.Proofs.Ytdnlfacfleemeaa
open Go.RowKit Go.Lib

theorem fldV_oct (f : Fk) (v : Int) (h0 : 0 ≤ v) (h1 : v < 256) : Oct (fldV f v) := by
  have hr : Oct (rowF 10 v) := oct_row 10 v h0 (by omega)
  have hb : Oct [v] := fun y hy => by simp at hy; omega
  cases f
  · exact hb
  · exact hb
  · exact hb
  · exact hr
  · exact hr
  · exact hr
  · exact hr

theorem oct_app {a b : List Int} (h1 : Oct a) (h2 : Oct b) : Oct (a ++ b) := fun y hy => (List.mem_append.1 hy).elim (h1 y) (h2 y)

theorem insBx_oct (x : Ins) (hop : 1 ≤ x.op ∧ x.op ≤ 16) (hf : ∀ f ∈ opF (opN x.op), 0 ≤ f.get x ∧ f.get x < 256) (hc : chk x.k x.i x.t = 0) (hi : InsOk x) : Oct (insBx x) := by
  rw [insBx_eq]
  refine oct_app (fun y hy => by simp at hy; omega) (oct_app ?_ ?_)
  · intro y hy
    obtain ⟨f, hf1, hf2⟩ := List.mem_flatMap.1 hy
    exact fldV_oct f _ (hf f hf1).1 (hf f hf1).2 y hf2
  · split
    · have hl := encB_len x.k x.i x.t hc hi.1 hi.2
      exact oct_app (oct_row 10 _ (by omega) (by have := hl.1; omega)) hl.2
    · exact fun y hy => by simp at hy

theorem procB_oct (nm : ByteArray) (ar : Int) (xs : List Ins) (hE : (procChk nm ar xs).2 = 0) (hi : ∀ x ∈ xs, InsOk x) : Oct (procB nm ar xs) := by
  have g := good_of hE
  have h1 := g.a0
  have h2 := g.a1
  have h3 := g.len
  have h4 := g.size
  have h5 := strBs_len nm
  unfold procB
  refine oct_app (oct_app (oct_app (oct_app (oct_row 10 _ (by omega) (by omega)) (oct_str nm)) (oct_row 10 _ h1 (by omega))) (oct_row 10 _ (by omega) (by omega))) ?_
  intro y hy
  obtain ⟨x, hx1, hx2⟩ := List.mem_flatMap.1 hy
  obtain ⟨j, hj⟩ := List.getElem?_of_mem hx1
  obtain ⟨q1, q2, q3⟩ := g.at hj
  exact insBx_oct x q1 q2 q3 (hi x hx1) y hx2

theorem Wr.uniq {B : Nat} {w : World} {p : Nat} {g g' : Option Nat} {bs bs' : List Int} {e e' : Int} (h : Wr B w p g bs e) (h' : Wr B w p g' bs' e') : g = g' := by
  obtain ⟨v, h1, rfl, _⟩ := h
  obtain ⟨v', h1', rfl, _⟩ := h'
  rw [h1] at h1'
  simp at h1'
  rw [h1'.1]

theorem wr_below {B p : Nat} {g : Option Nat} {w w' : World} {bs bs2 : List Int} {e e2 : Int} (h : Wr B w p g bs e) (hp : B ≤ p) (hs : WrStep B p g w w' bs2 e2) : Below B w w' := by
  obtain ⟨g', h1, h2, hk⟩ := hs
  have := h.lt
  refine hk.below (by omega) ?_
  rintro k hk2 (rfl | e)
  · omega
  · have := (h.glt k e).1; omega

/-- While a transaction is laid. -/
structure Ly (w0 w W : World) (p : Nat) (g : Option Nat) (o : Obj) (bs : List Int) : Prop where
  r0 : W.heap[w.heap.size]? = some o
  st : WrStep w0.heap.size p g w W bs 0
  hb : Below w0.heap.size w0 W

theorem WrStep.below {B p : Nat} {g : Option Nat} {w W W' : World} {bs : List Int} (h : WrStep B p g w W bs 0) (hb : Below W.heap.size W W') : WrStep B p g w W' bs 0 := by
  obtain ⟨g', h1, h2, h3⟩ := h
  exact ⟨g', h1.kept (Kept.ofBelow hb) (fun h => h) (fun _ _ h => h), h2, h3.more hb⟩

theorem below_up {B : Nat} {w W W' : World} (h : Below B w W) (hB : B ≤ w.heap.size) (hb : Below B W W') : Below B w W' := by
  have _ := hB
  exact h.trans hb

theorem Ly.below {w0 w W W' : World} {p : Nat} {g : Option Nat} {o : Obj} {bs : List Int} (h : Ly w0 w W p g o bs) (hb : Below W.heap.size W W') : Ly w0 w W' p g o bs :=
  ⟨blk_of hb h.r0 (lt_of h.r0), h.st.below hb, below_on h.hb hb⟩

theorem Ly.step {w0 w W W' : World} {p : Nat} {g g1 : Option Nat} {cs : Array Value} {ty : TypeId} {bs bs2 : List Int} (h : Ly w0 w W p g (.cells cs ty) bs) (hp : w0.heap.size ≤ p) (h5 : ty ≠ 5) (h57 : ty ≠ 57)
    (hg1 : Wr w0.heap.size W p g1 bs 0) (hs : WrStep w0.heap.size p g1 W W' bs2 0) : Ly w0 w W' p g (.cells cs ty) bs2 := by
  refine ⟨?_, ?_, h.hb.trans (wr_below hg1 hp hs)⟩
  · obtain ⟨g', h1, h2, hk⟩ := hs
    exact (hk.block _ (lt_of h.r0) (hg1.other h.r0 h5 h57)).trans h.r0
  · refine h.st.trans (fun g' hg' => ?_)
    rw [hg'.uniq hg1]
    exact hs

theorem ly_start {w0 w : World} {p : Nat} {g : Option Nat} {o : Obj} {bs : List Int} (hW : Wr w0.heap.size w p g bs 0) (hb : Below w0.heap.size w0 w) : Ly w0 w (w.alloc o) p g o bs :=
  ⟨heap_alloc_new w o, (WrStep.refl hW).below (below1 w o), below_on hb (below1 w o)⟩

theorem ta73 (v : Value) (w : World) : (Instr.typeAssert (.iface 73 v) 61 73 true).run Try.prog w = .ok (.tuple #[v, .bool true]) w := by kernel_rfl
theorem ta7773 (v : Value) (w : World) : (Instr.typeAssert (.iface 77 v) 61 73 true).run Try.prog w = .ok (.tuple #[.agg #[.int .i64 0, .string ⟨#[]⟩, .int .i64 0, .slice none 0 0, .string ⟨#[]⟩, .slice none 0 0], .bool false]) w := by kernel_rfl
theorem ta77 (v : Value) (w : World) : (Instr.typeAssert (.iface 77 v) 61 77 true).run Try.prog w = .ok (.tuple #[v, .bool true]) w := by kernel_rfl

theorem wnum_eq (bs : List Int) (v : Int) (hv : 0 ≤ v) : wnumZ (bs, 0) v = (bs ++ rowF 10 v, 0) := by unfold wnumZ; rw [if_pos rfl, if_neg (by omega)]
theorem wtext_eq (bs s : List Int) : wtextZ (bs, 0) s = (bs ++ (rowF 10 s.length ++ s), 0) := by simp [wtextZ]

theorem vtake (vs : List Vd) (n : Nat) (v : Vd) (h : vs[n]? = some v) : (vs.take (n + 1)).flatMap vB = (vs.take n).flatMap vB ++ vB v := by
  rw [List.take_add_one, h]
  simp [List.flatMap_append]

set_option maxRecDepth 100000 in
set_option maxHeartbeats 4000000 in
theorem blay_def (w0 w : World) (B0 p : Nat) (g : Option Nat) (bs : List Int) (t : Txd) (S1 S2 : Value) (hW : Wr w0.heap.size w p g bs 0) (hp : w0.heap.size ≤ p) (hb : Below w0.heap.size w0 w) (h1 : CdAt B0 w0 S1 t.xs) (h2 : VsAt B0 w0 S2 t.vs)
    (hc : (procChk t.pn t.pa t.xs).2 = 0) (ho : ∀ x ∈ t.xs, InsOk x) (hl : bs.length ≤ 500000000) :
    Calls Try.prog 17 #[.pointer (some ⟨p, 0, none⟩), .iface 73 (txv t S1 S2)] w fun e w' => e = .returned (.tuple #[]) ∧ WrStep w0.heap.size p g w w' (bs ++ ([1] ++ rowF 10 ((procB t.pn t.pa t.xs).length : Nat) ++ procB t.pn t.pa t.xs)) 0 := by
  have q1 := ta73
  have HY := hid (ly_start (o := txo t S1 S2 73) hW hb)
  have hlt := hW.lt
  have HC := hid (fun W (hb : Below w0.heap.size w0 W) => pencode_any t.pn t.pa S1 t.xs W (h1.code.below hb) (by have := (good_of hc).len; omega) ho)
  obtain ⟨E1, E2, hR⟩ : ∃ R1 R2, procChk t.pn t.pa t.xs = (R1, R2) := ⟨_, _, rfl⟩
  have hsm := procB_small t.pn t.pa t.xs hc
  unfold PEnc at HC
  rw [hR] at HC hc
  dsimp only at HC hc
  subst hc
  have hoc : Oct (procB t.pn t.pa t.xs) := procB_oct t.pn t.pa t.xs (by rw [hR]) ho
  have HO := hid hoc
  obtain ⟨a1, c1, rfl⟩ := h1.form
  obtain ⟨a2, c2, rfl⟩ := h2.form
  generalize hPB : procB t.pn t.pa t.xs = PB at *
  clear hR h1 h2 ho hoc hPB hW
  go_enter Try.func17, Try.ntmps17
  go_wp2_with (first
    | (go_at_call 28
       obtain ⟨g1, hg1, -⟩ := HY.out.st
       refine (wbyte_any w0.heap.size p g1 bs 0 _ 1 hg1 (by simp; omega) (by decide) (by decide) (by omega)).mono ?_
       rintro e w1 ⟨rfl, hs1⟩
       rw [fix1 1 (by decide) (by decide)] at hs1
       have H1 := hid (HY.out.step hp (by decide) (by decide) hg1 hs1)
       obtain ⟨p0, p1, p2, p3, p4, p5, -⟩ := vfacts6 H1.out.r0
       clear hs1 hg1 g1)
    | (go_at_call 29
       refine (HC.out _ H1.out.hb).mono ?_
       rintro e w2 (⟨h5, -⟩ | ⟨-, g5, rfl, ho5, hg5, hb5⟩)
       · exact absurd rfl h5
       have hs5 := sl_string (sl_of_owns (ho5.owns (B := 0) (Nat.zero_le _) (by unfold maxLen; omega)))
       have H2 := hid (H1.out.below hb5)
       clear hb5 ho5 hg5)
    | (go_at_call 30
       obtain ⟨g1, hg1, -⟩ := H2.out.st
       refine (wtext_any w0.heap.size p g1 _ 0 _ (mkStr PB) hg1 H2.out.hb.size (by rw [mkStr_size]; omega) (by rw [List.length_append]; simp; omega)).mono ?_
       rintro e w3 ⟨rfl, hs3⟩
       rw [strBs_mkStr _ HO.out, wtext_eq] at hs3
       have H3 := hid (H2.out.step hp (by decide) (by decide) hg1 hs3)
       clear hs3 hg1 g1))
  go_end0
  exact ⟨rfl, by have := H3.out.st; simpa [List.append_assoc] using this⟩

theorem call_bytes (bs nm : List Int) (l : Int) (vb : List Int) : bs ++ [2] ++ (rowF 10 (nm.length : Nat) ++ nm) ++ rowF 10 l ++ vb = bs ++ ([2] ++ rowF 10 (nm.length : Nat) ++ nm ++ rowF 10 l ++ vb) := by simp [List.append_assoc]

set_option maxRecDepth 100000 in
set_option maxHeartbeats 4000000 in
theorem blay_call (w0 w : World) (B0 p : Nat) (g : Option Nat) (bs : List Int) (t : Txd) (S1 S2 : Value) (hW : Wr w0.heap.size w p g bs 0) (hp : w0.heap.size ≤ p) (hb : Below w0.heap.size w0 w) (h1 : CdAt B0 w0 S1 t.xs) (h2 : VsAt B0 w0 S2 t.vs)
    (hn : t.nm.size ≤ 32) (hv : t.vs.length ≤ 16) (hc : ∀ v ∈ t.vs, chk v.k v.i v.t = 0) (ho : ∀ v ∈ t.vs, VdOk v) (hl : bs.length ≤ 500000000) :
    Calls Try.prog 17 #[.pointer (some ⟨p, 0, none⟩), .iface 77 (txv t S1 S2)] w fun e w' => e = .returned (.tuple #[]) ∧ WrStep w0.heap.size p g w w' (bs ++ ([2] ++ rowF 10 ((strBs t.nm).length : Nat) ++ strBs t.nm ++ rowF 10 (t.vs.length : Int) ++ t.vs.flatMap vB)) 0 := by
  have q1 := ta7773
  have q2 := ta77
  have HY := hid (ly_start (o := txo t S1 S2 77) hW hb)
  have hlt := hW.lt
  have hsl := strBs_len t.nm
  obtain ⟨a1, c1, rfl⟩ := h1.form
  obtain ⟨a2, c2, rfl, hc2, hx2⟩ := h2
  have HX := hid hx2
  have HC := hid hc
  have HO := hid ho
  have hr1 := rowF_le 10 ((strBs t.nm).length : Nat)
  have hr2 := rowF_le 10 (t.vs.length : Int)
  have HE := hid (fun v (hv : v ∈ t.vs) => encode_any v.k v.i v.t (ho v hv).1 (ho v hv).2)
  clear h1 hx2 hc ho hW
  obtain ⟨hd, hhd⟩ : ∃ hd, hd = bs ++ [2] ++ (rowF 10 ((strBs t.nm).length : Nat) ++ strBs t.nm) ++ rowF 10 (t.vs.length : Int) := ⟨_, rfl⟩
  have hdl : hd.length ≤ 500001000 := by rw [hhd]; simp only [List.length_append, List.length_singleton]; omega
  have HHD := hid hhd
  have L1 : Hid ((bs ++ [2]).length ≤ 1000000000) := hid (by simp only [List.length_append, List.length_singleton]; omega)
  have L2 : Hid ((bs ++ [2] ++ (rowF 10 ((strBs t.nm).length : Nat) ++ strBs t.nm)).length ≤ 1000000000) := hid (by simp only [List.length_append, List.length_singleton]; omega)
  clear hhd hr1 hr2
  go_enter Try.func17, Try.ntmps17
  go_wp2_with (first
    | (go_at_call 28
       obtain ⟨g1, hg1, -⟩ := HY.out.st
       refine (wbyte_any w0.heap.size p g1 bs 0 _ 2 hg1 (by simp; omega) (by decide) (by decide) (by omega)).mono ?_
       rintro e w1 ⟨rfl, hs1⟩
       rw [fix1 2 (by decide) (by decide)] at hs1
       have H1 := hid (HY.out.step hp (by decide) (by decide) hg1 hs1)
       obtain ⟨p0, p1, p2, p3, p4, p5, -⟩ := vfacts6 H1.out.r0
       clear hs1 hg1 g1)
    | (go_at_call 30
       obtain ⟨g1, hg1, -⟩ := H1.out.st
       refine (wtext_any w0.heap.size p g1 _ 0 _ t.nm hg1 H1.out.hb.size (by omega) L1.out).mono ?_
       rintro e w2 ⟨rfl, hs2⟩
       rw [wtext_eq] at hs2
       have H2 := hid (H1.out.step hp (by decide) (by decide) hg1 hs2)
       obtain ⟨p0, p1, p2, p3, p4, p5, -⟩ := vfacts6 H2.out.r0
       clear hs2 hg1 g1 H1)
    | (go_at_call 16
       obtain ⟨g1, hg1, -⟩ := H2.out.st
       refine (wnum_any w0.heap.size p g1 _ 0 _ (t.vs.length : Int) hg1 H2.out.hb.size (by omega) L2.out).mono ?_
       rintro e w3 ⟨rfl, hs3⟩
       rw [wnum_eq _ _ (by omega)] at hs3
       have H3 := hid (H2.out.step hp (by decide) (by decide) hg1 hs3)
       rw [← HHD.out] at H3
       obtain ⟨p0, p1, p2, p3, p4, p5, -⟩ := vfacts6 H3.out.r0
       clear hs3 hg1 g1 H2))
  go_loopw [45] (fun ix wr => ∃ (n : Nat), n ≤ t.vs.length ∧ ix = .int .i64 n ∧ Hid (Ly w0 w wr p g (txo t (.slice a1 t.xs.length c1) (.slice a2 t.vs.length c2) 77) (hd ++ (t.vs.take n).flatMap vB))) (fun ix _ => t.vs.length - (intOf ix).toNat)
  case atStart => exact ⟨0, Nat.zero_le _, rfl, hid (by simpa using H3.out)⟩
  case round =>
    clear H3 p0 p1 p2 p3 p4 p5
    obtain ⟨n, hn2, rfl, hP⟩ := hrel
    obtain ⟨p0, p1, p2, p3, p4, p5, -⟩ := vfacts6 hP.out.r0
    by_cases hlt2 : n < t.vs.length
    · obtain ⟨v, hvn⟩ : ∃ v, t.vs[n]? = some v := ⟨_, List.getElem?_eq_getElem hlt2⟩
      obtain ⟨b, off, rfl, hBb, hat⟩ := HX.out (by intro e; rw [e] at hlt2; simp at hlt2)
      have hat := hat n v hvn
      obtain ⟨d0, d1, d2⟩ := hat.same (hP.out.hb.block b hat.lt)
      have hmem := List.mem_of_getElem? hvn
      have hlt2' : (n : Int) < (t.vs.length : Int) := by omega
      have m2 := World.new_ne wr ⟨b, off + n * 3, none⟩ d0
      have HT := hid (vtake t.vs n v hvn)
      have HEv := hid (HE.out v hmem)
      have HZ := hid (HC.out v hmem)
      have HQ := hid (And.intro (encB_small v.k v.i v.t (HC.out v hmem)) (encB_len v.k v.i v.t (HC.out v hmem) (HO.out v hmem).1 (HO.out v hmem).2).2)
      have HLN : Hid ((hd ++ (t.vs.take n).flatMap vB).length ≤ 1000000000) := hid (by
        have h9 := flat_lenI vB 320 (t.vs.take n) (fun v hv2 => vB_small v (HC.out v (List.mem_of_mem_take hv2)))
        have h8 : (t.vs.take n).length ≤ 16 := by rw [List.length_take]; omega
        have h7 : 320 * (t.vs.take n).length ≤ 320 * 16 := Nat.mul_le_mul_left _ h8
        rw [List.length_append]
        omega)
      clear hat hvn hmem p0 p1 p2 p3 p4 p5
      go_wp2_with (first
        | (go_at_call 31
           refine (HEv.out _).mono ?_
           rintro e w5 (⟨h5, -⟩ | ⟨-, g5, rfl, ho5, hg5, hb5⟩)
           · exact absurd HZ.out h5
           have hs5 := sl_string (sl_of_owns (ho5.owns (B := 0) (Nat.zero_le _) (by have := HQ.out.1; unfold maxLen; omega)))
           have H5 := hid (hP.out.below (below_on (below1 wr _) hb5))
           clear hb5 ho5 hg5)
        | (go_at_call 30
           obtain ⟨g1, hg1, -⟩ := H5.out.st
           refine (wtext_any w0.heap.size p g1 _ 0 _ (mkStr (encB v.k v.i v.t)) hg1 H5.out.hb.size (by rw [mkStr_size]; have := HQ.out.1; omega) HLN.out).mono ?_
           rintro e w6 ⟨rfl, hs6⟩
           rw [strBs_mkStr _ HQ.out.2, wtext_eq] at hs6
           have H6 := hid (H5.out.step hp (by decide) (by decide) hg1 hs6)
           clear hs6 hg1 g1))
      go_roundw
      case rel =>
        refine ⟨n + 1, by omega, by go_num, hid ?_⟩
        rw [HT.out, ← List.append_assoc]
        exact H6.out
      case measure => simp [intOf]; omega
    · have htk : t.vs.take n = t.vs := List.take_of_length_le (by omega)
      rw [htk] at hP
      go_wp2
      go_end0
      refine ⟨rfl, ?_⟩
      have := hP.out.st
      rw [HHD.out, call_bytes] at this
      exact this

theorem blay_any (w0 w : World) (B0 p : Nat) (g : Option Nat) (bs : List Int) (t : Txd) (S1 S2 : Value) (hW : Wr w0.heap.size w p g bs 0) (hp : w0.heap.size ≤ p) (hb : Below w0.heap.size w0 w) (h1 : CdAt B0 w0 S1 t.xs) (h2 : VsAt B0 w0 S2 t.vs)
    (hc : txChk t = 0) (ho : TxOk t) (hl : bs.length ≤ 500000000) :
    Calls Try.prog 17 #[.pointer (some ⟨p, 0, none⟩), deed t S1 S2] w fun e w' => e = .returned (.tuple #[]) ∧ WrStep w0.heap.size p g w w' (bs ++ txB t) 0 := by
  unfold deed txB
  rcases txChk_good t hc with ⟨hk, _, _, hpr⟩ | ⟨hk, _, _, _, hn, hlv, hv⟩
  · rw [if_pos hk, if_pos hk]
    exact blay_def w0 w B0 p g bs t S1 S2 hW hp hb h1 h2 hpr ho.1 hl
  · have hk1 : ¬ t.k = 1 := by omega
    rw [if_neg hk1, if_neg hk1, if_pos hk]
    exact blay_call w0 w B0 p g bs t S1 S2 hW hp hb h1 h2 (name_size hn) hlv hv ho.2 hl

end Go.Proofs.Ytdnlfacfleemeaa

namespace Go.Proofs.Ytdnlfacfleemeaa
open Go.RowKit Go.Lib

/-- What Encode leaves. -/
def BEnc (w : World) (r : Except Int (List Int)) (e : Ending) (w' : World) : Prop :=
  Below w.heap.size w w' ∧ match r with
  | .error E => e = .returned (.tuple #[.slice none 0 0, .int .i64 E])
  | .ok l => ∃ g, e = .returned (.tuple #[.slice (some ⟨g, 0, none⟩) l.length l.length, .int .i64 0]) ∧ Own w' g l ∧ w.heap.size ≤ g

/-- While a batch is laid. -/
structure Eb (w W : World) (p : Nat) (bs : List Int) (f : Int) (S : Value) : Prop where
  r0 : W.heap[w.heap.size]? = some (bo f S)
  wr : ∃ g, Wr w.heap.size W p g bs 0
  hb : Below w.heap.size w W
  hp : w.heap.size < p

theorem Eb.below {w W W' : World} {p : Nat} {bs : List Int} {f : Int} {S : Value} (h : Eb w W p bs f S) (hb : Below W.heap.size W W') : Eb w W' p bs f S := by
  obtain ⟨g, hg⟩ := h.wr
  exact ⟨blk_of hb h.r0 (lt_of h.r0), ⟨g, hg.kept (Kept.ofBelow hb) (fun h => h) (fun _ _ h => h)⟩, below_on h.hb hb, h.hp⟩

theorem Eb.step {w W W' : World} {p : Nat} {bs bs2 : List Int} {f : Int} {S : Value} {g : Option Nat} (h : Eb w W p bs f S) (hg : Wr w.heap.size W p g bs 0) (hs : WrStep w.heap.size p g W W' bs2 0) : Eb w W' p bs2 f S := by
  have hb := wr_below hg (Nat.le_of_lt h.hp) hs
  obtain ⟨g', h1, h2, hk⟩ := hs
  exact ⟨(hk.block _ (lt_of h.r0) (hg.other h.r0 (by decide) (by decide))).trans h.r0, ⟨g', h1⟩, h.hb.trans hb, h.hp⟩

theorem eb_new {w w1 : World} {f : Int} {S : Value} (hb : Below (w.alloc (bo f S)).heap.size (w.alloc (bo f S)) w1) : Eb w (w1.alloc (.cells #[.slice none 0 0, .int .i64 0] 57)) w1.heap.size [] f S := by
  have h0 := blk_of hb (heap_alloc_new w (bo f S)) (by simp)
  have hb' : Below w.heap.size w w1 := (below1 w _).trans (hb.mono (below1 w (bo f S)).size)
  exact ⟨(Below.heap_alloc _ _ _ (lt_of h0)).trans h0, ⟨none, wr_new w1 _⟩, hb'.alloc hb'.size _, lt_of h0⟩

theorem ttake (ts : List Txd) (n : Nat) (t : Txd) (h : ts[n]? = some t) : (ts.take (n + 1)).flatMap txB = (ts.take n).flatMap txB ++ txB t := by
  rw [List.take_add_one, h]
  simp [List.flatMap_append]

set_option maxRecDepth 100000 in
set_option maxHeartbeats 4000000 in
theorem bencode_no (B : Nat) (f : Int) (S : Value) (ts : List Txd) (w : World) (h : TsAt B w S ts) (hL : ∀ t ∈ ts, TxL t) (hl : ts.length ≤ 1000000000) (hE : batChk f ts ≠ 0) :
    Calls Try.prog 8 #[.agg #[.int .i64 f, S]] w (BEnc w (.error (batChk f ts))) := by
  have HC := hid (bcheck_any B f S ts (w.alloc (bo f S)) (h.below (below1 w _)) hL hl)
  have he2 : (batChk f ts == 0) = false := by simpa using hE
  generalize batChk f ts = E at *
  have hB0 := hid (below1 w (bo f S))
  obtain ⟨ao, cap, rfl, hcap, -⟩ := h
  unfold BEnc
  dsimp only
  clear hL hE
  go_enter Try.func8, Try.ntmps8
  go_wp2_with (first
    | (go_at_call 7
       refine HC.out.mono ?_
       rintro e w1 ⟨rfl, hb1⟩
       have H1 := hid (below_on hB0.out hb1)
       clear hb1))
  go_ret2
  exact ⟨H1.out, rfl⟩

set_option maxRecDepth 100000 in
set_option maxHeartbeats 4000000 in
theorem bencode_ok (B : Nat) (f : Int) (S : Value) (ts : List Txd) (w : World) (h : TsAt B w S ts) (hL : ∀ t ∈ ts, TxL t) (hl : ts.length ≤ 1000000000) (ho : ∀ t ∈ ts, TxOk t) (hE : batChk f ts = 0) :
    Calls Try.prog 8 #[.agg #[.int .i64 f, S]] w (BEnc w (if (batB f ts).length ≤ 65536 then .ok (batB f ts) else .error 4)) := by
  have HC := hid (bcheck_any B f S ts (w.alloc (bo f S)) (h.below (below1 w _)) hL hl)
  obtain ⟨f0, f1, l0, l1, l2, hts⟩ := batChk_good f ts hE
  rw [hE] at HC
  have HB := hid (batB_small f ts hts l1)
  have HT := hid (tsChk_all ts hts)
  have HO := hid ho
  obtain ⟨ao, cap, rfl, hcap, hcells⟩ := h
  have HX := hid hcells
  have hr1 := rowF_le 10 f
  have hr2 := rowF_le 10 (ts.length : Int)
  obtain ⟨hd, hhd⟩ : ∃ hd, hd = [] ++ rowF 10 f ++ rowF 10 (ts.length : Int) := ⟨_, rfl⟩
  have hdl : hd.length ≤ 1000 := by rw [hhd]; simp only [List.length_append, List.length_nil]; omega
  have HHD := hid hhd
  have L1 : Hid (([] ++ rowF 10 f).length ≤ 1000000000) := hid (by simp only [List.length_append, List.length_nil]; omega)
  clear hL hE hts ho hcells hhd hr1 hr2
  generalize hPo : BEnc w (if (batB f ts).length ≤ 65536 then .ok (batB f ts) else .error 4) = Po
  have HPO := hid hPo
  clear hPo
  go_enter Try.func8, Try.ntmps8
  go_wp2_with (first
    | (go_at_call 7
       refine HC.out.mono ?_
       rintro e w1 ⟨rfl, hb1⟩
       have H1 := hid (eb_new hb1)
       obtain ⟨p0, p1, -⟩ := vfacts2 (blk_of hb1 (heap_alloc_new w _) (by simp))
       have k0 : w.heap.size < w1.heap.size := H1.out.hp
       clear hb1)
    | (go_at_call 16
       first
       | (obtain ⟨g1, hg1⟩ := H1.out.wr
          refine (wnum_any w.heap.size w1.heap.size g1 _ 0 _ f hg1 H1.out.hb.size (by omega) (by simp)).mono ?_
          rintro e w2 ⟨rfl, hs2⟩
          rw [wnum_eq _ _ (by omega)] at hs2
          have H2 := hid (H1.out.step hg1 hs2)
          obtain ⟨p0, p1, -⟩ := vfacts2 H2.out.r0
          clear hs2 hg1 g1 H1)
       | (obtain ⟨g1, hg1⟩ := H2.out.wr
          refine (wnum_any w.heap.size w1.heap.size g1 _ 0 _ (ts.length : Int) hg1 H2.out.hb.size (by omega) L1.out).mono ?_
          rintro e w3 ⟨rfl, hs3⟩
          rw [wnum_eq _ _ (by omega)] at hs3
          have H3 := hid (H2.out.step hg1 hs3)
          rw [← HHD.out] at H3
          obtain ⟨p0, p1, -⟩ := vfacts2 H3.out.r0
          clear hs3 hg1 g1 H2)))
  go_loopw [28] (fun ix wr => ∃ (n : Nat), n ≤ ts.length ∧ ix = .int .i64 n ∧ Hid (Eb w wr w1.heap.size (hd ++ (ts.take n).flatMap txB) f (.slice ao ts.length cap))) (fun ix _ => ts.length - (intOf ix).toNat)
  case atStart => exact ⟨0, Nat.zero_le _, rfl, hid (by simpa using H3.out)⟩
  case round =>
    clear H3 p0 p1
    obtain ⟨n, hn2, rfl, hP⟩ := hrel
    by_cases hlt2 : n < ts.length
    · obtain ⟨t, htn⟩ : ∃ t, ts[n]? = some t := ⟨_, List.getElem?_eq_getElem hlt2⟩
      obtain ⟨b, off, rfl, hBb, hat⟩ := HX.out (by intro e; rw [e] at hlt2; simp at hlt2)
      obtain ⟨S1, S2, hc, hS1, hS2⟩ := hat n t htn
      obtain ⟨d0, d1, d2, d3, d4, d5⟩ := hc.same (hP.out.hb.block b hc.lt)
      have hmem := List.mem_of_getElem? htn
      have hlt2' : (n : Int) < (ts.length : Int) := by omega
      have m2 := World.new_ne wr ⟨b, off + n * 6, none⟩ d0
      have HTk := hid (ttake ts n t htn)
      have HD := hid (fun W => deedOf_any t S1 S2 W)
      have HS := hid (And.intro hS1 hS2)
      have HTt := hid (And.intro (HT.out t hmem) (HO.out t hmem))
      have HLN : Hid ((hd ++ (ts.take n).flatMap txB).length ≤ 500000000) := hid (by
        have h9 := flat_lenI txB 140000 (ts.take n) (fun v hv2 => txB_small v (HT.out v (List.mem_of_mem_take hv2)))
        have h8 : (ts.take n).length ≤ 64 := by rw [List.length_take]; omega
        have h7 : 140000 * (ts.take n).length ≤ 140000 * 64 := Nat.mul_le_mul_left _ h8
        rw [List.length_append]
        omega)
      obtain ⟨a1, c1, rfl⟩ := hS1.form
      obtain ⟨a2, c2, rfl⟩ := hS2.form
      obtain ⟨dv, hdv⟩ : ∃ dv, dv = deed t (.slice a1 t.xs.length c1) (.slice a2 t.vs.length c2) := ⟨_, rfl⟩
      have HDV := hid hdv
      rw [← hdv] at HD
      clear hat hc htn hmem hS1 hS2 hdv
      go_wp2_with (first
        | (go_at_call 18
           refine (HD.out _).mono ?_
           rintro e w5 ⟨rfl, hb5⟩
           have H5 := hid (hP.out.below (below_on (below1 wr _) hb5))
           clear hb5)
        | (go_at_call 17
           obtain ⟨g1, hg1⟩ := H5.out.wr
           rw [HDV.out]
           refine (blay_any w _ B w1.heap.size g1 _ t _ _ hg1 (Nat.le_of_lt H5.out.hp) H5.out.hb HS.out.1 HS.out.2 HTt.out.1 HTt.out.2 HLN.out).mono ?_
           rintro e w6 ⟨rfl, hs6⟩
           have H6 := hid (H5.out.step hg1 hs6)
           clear hs6 hg1 g1))
      go_roundw
      case rel =>
        refine ⟨n + 1, by omega, by go_num, hid ?_⟩
        rw [HTk.out, ← List.append_assoc]
        exact H6.out
      case measure => simp [intOf]; omega
    · have htk : ts.take n = ts := List.take_of_length_le (by omega)
      rw [htk] at hP
      have HP2 := hid (show hd ++ ts.flatMap txB = batB f ts by rw [HHD.out, batB, List.nil_append])
      rw [HP2.out] at hP
      have hbl := HB.out
      by_cases hlen : (batB f ts).length ≤ 65536
      · rw [if_pos hlen] at HPO
        generalize hbb : batB f ts = bb at *
        have hd4 : decide ((65536 : Int) < (bb.length : Int)) = false := by simp; omega
        clear hbb htk hlen
        go_wp2_with (first
          | (go_at_call 19
             obtain ⟨g1, hg1⟩ := hP.out.wr
             refine (wdata_any w.heap.size w1.heap.size g1 _ _ _ hg1 (by omega)).mono ?_
             rintro e w7 ⟨rfl, ho7, hb7⟩
             have H7 := hid (And.intro ho7 (And.intro hP.out.hb.size (below_on hP.out.hb hb7)))
             clear ho7 hb7 hg1 g1))
        rw [← HPO.out]
        exact ⟨H7.out.2.2, _, rfl, H7.out.1, H7.out.2.1⟩
      · rw [if_neg hlen] at HPO
        generalize hbb : batB f ts = bb at *
        have hd4 : (65536 : Int) < (bb.length : Int) := by omega
        clear hbb htk hlen
        go_wp2_with (first
          | (go_at_call 19
             obtain ⟨g1, hg1⟩ := hP.out.wr
             refine (wdata_any w.heap.size w1.heap.size g1 _ _ _ hg1 (by omega)).mono ?_
             rintro e w7 ⟨rfl, ho7, hb7⟩
             have H7 := hid (And.intro ho7 (And.intro hP.out.hb.size (below_on hP.out.hb hb7)))
             clear ho7 hb7 hg1 g1))
        rw [← HPO.out]
        exact ⟨H7.out.2.2, rfl⟩

theorem bencode_any (B : Nat) (f : Int) (S : Value) (ts : List Txd) (w : World) (h : TsAt B w S ts) (hL : ∀ t ∈ ts, TxL t) (hl : ts.length ≤ 1000000000) (ho : ∀ t ∈ ts, TxOk t) :
    Calls Try.prog 8 #[.agg #[.int .i64 f, S]] w (BEnc w (batE f ts)) := by
  unfold batE
  by_cases hE : batChk f ts = 0
  · rw [if_pos hE]
    exact bencode_ok B f S ts w h hL hl ho hE
  · rw [if_neg hE]
    exact bencode_no B f S ts w h hL hl hE

end Go.Proofs.Ytdnlfacfleemeaa

namespace Go.Proofs.Ytdnlfacfleemeaa
open Go.RowKit Go.Lib

/-- The chapter's batch. -/
def kP : ByteArray := ⟨#[112]⟩
def kTs : List Txd := [⟨2, emp, 0, [], kP, [⟨1, 7, emp⟩]⟩]
def kB : List Int := [1, 1, 2, 1, 112, 1, 2, 1, 14]

theorem kb_name : nameB kP = true := by decide
theorem kb_chk : batChk 1 kTs = 0 := by
  simp [batChk, kTs, tsChk, txChk, txHead, vsChk, chk, kb_name]
theorem kb_none : batChk 0 [] = 1 := by decide
theorem kb_bytes : batB 1 kTs = kB := by decide
theorem kb_enc : batE 1 kTs = .ok kB := by
  unfold batE
  rw [if_pos kb_chk, kb_bytes, if_pos (by decide)]
theorem kb_tk : tkBat kB = .ok (1, [⟨2, emp, 0, [], mkStr [112], [⟨1, 7, mkStr []⟩]⟩]) := by kernel_rfl
theorem kb_dec : decBat kB = .ok (1, kTs) := by
  unfold decBat
  rw [if_pos (by decide), kb_tk]
  have e : ([⟨2, emp, 0, [], mkStr [112], [⟨1, 7, mkStr []⟩]⟩] : List Txd) = kTs := rfl
  dsimp only
  rw [e, if_pos kb_chk]
theorem kb_oct : Oct kB := by
  intro x hx
  simp only [kB, List.mem_cons, List.mem_nil_iff, or_false] at hx
  omega
theorem kb_L : ∀ t ∈ kTs, TxL t := by
  intro t ht
  simp only [kTs, List.mem_cons, List.mem_nil_iff, or_false] at ht
  subst ht
  exact ⟨by simp, by simp⟩
theorem kb_ok : ∀ t ∈ kTs, TxOk t := by
  intro t ht
  simp only [kTs, List.mem_cons, List.mem_nil_iff, or_false] at ht
  subst ht
  exact ⟨fun x hx => by simp at hx, fun v hv => by simp at hv; subst hv; exact ⟨by decide, by decide⟩⟩

/-- While the known answers are asked. -/
structure Kb (w W : World) : Prop where
  b0 : W.heap[w.heap.size]? = some (.cells #[.int .i64 1, .int .i64 7, .string emp] 50 (0, 0))
  b1 : W.heap[w.heap.size + 1]? = some (.cells #[.int .i64 2, .string emp, .int .i64 0, .slice none 0 0, .string kP, .slice (some ⟨w.heap.size, 0, none⟩) 1 1] 30 (0, 0))
  b2 : W.heap[w.heap.size + 1 + 1]? = some (bo 1 (.slice (some ⟨w.heap.size + 1, 0, none⟩) 1 1))
  hb : Below w.heap.size w W

theorem Kb.below {w W W' : World} (h : Kb w W) (hb : Below W.heap.size W W') : Kb w W' := ⟨blk_of hb h.b0 (lt_of h.b0), blk_of hb h.b1 (lt_of h.b1), blk_of hb h.b2 (lt_of h.b2), below_on h.hb hb⟩

theorem Kb.ts {w W : World} (h : Kb w W) : TsAt 0 W (.slice (some ⟨w.heap.size + 1, 0, none⟩) 1 1) kTs := by
  refine ⟨_, _, rfl, Nat.le_refl _, fun _ => ⟨_, _, rfl, Nat.zero_le _, fun j t ht => ?_⟩⟩
  have hj : j = 0 := by
    have := (List.getElem?_eq_some_iff.1 ht).1
    simp [kTs] at this
    exact this
  subst hj
  simp [kTs] at ht
  subst ht
  obtain ⟨c0, c1, c2, c3, c4, c5, -⟩ := vfacts6 h.b1
  refine ⟨_, _, ⟨c0, c1, c2, c3, c4, c5⟩, ⟨none, 0, rfl, Nat.le_refl _, fun h => absurd rfl h⟩, _, _, rfl, Nat.le_refl _, fun _ => ⟨_, _, rfl, Nat.zero_le _, fun i v hv => ?_⟩⟩
  have hi : i = 0 := by
    have := (List.getElem?_eq_some_iff.1 hv).1
    simpa using this
  subst hi
  simp at hv
  subst hv
  obtain ⟨d0, d1, d2, -⟩ := vfacts h.b0
  exact ⟨d0, d1, d2⟩

theorem kb_start (w : World) : Kb w (((w.alloc (.cells #[.int .i64 1, .int .i64 7, .string emp] 50)).alloc (.cells #[.int .i64 2, .string emp, .int .i64 0, .slice none 0 0, .string kP, .slice (some ⟨w.heap.size, 0, none⟩) 1 1] 30)).alloc (bo 1 (.slice (some ⟨w.heap.size + 1, 0, none⟩) 1 1))) := by
  have b2 := heap_alloc_new ((w.alloc (.cells #[.int .i64 1, .int .i64 7, .string emp] 50)).alloc (.cells #[.int .i64 2, .string emp, .int .i64 0, .slice none 0 0, .string kP, .slice (some ⟨w.heap.size, 0, none⟩) 1 1] 30)) (bo 1 (.slice (some ⟨w.heap.size + 1, 0, none⟩) 1 1))
  refine ⟨?_, ?_, by simpa using b2, (below2 w _ _).alloc (by simp; omega) _⟩
  · rw [Below.heap_alloc _ _ _ (by simp; omega)]; exact two1 w _ _
  · rw [Below.heap_alloc _ _ _ (by simp)]; exact two2 w _ _

abbrev kArr9 : Array Value := #[.int .u8 1, .int .u8 1, .int .u8 2, .int .u8 1, .int .u8 112, .int .u8 1, .int .u8 2, .int .u8 1, .int .u8 14]

theorem conv9 (w : World) : (convert 34 34 (.slice (some ⟨w.heap.size, 0, none⟩) 9 9)).run Try.prog (w.alloc (.cells kArr9 5)) = .ok (.slice (some ⟨w.heap.size, 0, none⟩) 9 9) (w.alloc (.cells kArr9 5 (9, 10))) :=
  Go.Joins.run_convert_bytes_const_at w 34 5 kArr9 9 9 w.heap.size rfl Try.underlying34 Try.underlying5

theorem sl_k9 (w : World) : Sl (w.alloc (.cells kArr9 5 (9, 10))) (.slice (some ⟨w.heap.size, 0, none⟩) 9 9) kB := by
  refine ⟨_, _, rfl, Nat.le_refl _, fun _ => ⟨_, _, rfl, fun j x hx => ?_⟩⟩
  rw [Nat.zero_add, World.cell?_alloc_mark]
  have hj : j < 9 := (List.getElem?_eq_some_iff.1 hx).1
  have : (kArr9 : Array Value)[j]? = (kB.map (Value.int .u8))[j]? := by
    rcases (show j = 0 ∨ j = 1 ∨ j = 2 ∨ j = 3 ∨ j = 4 ∨ j = 5 ∨ j = 6 ∨ j = 7 ∨ j = 8 by omega) with rfl | rfl | rfl | rfl | rfl | rfl | rfl | rfl | rfl <;> rfl
  rw [this, List.getElem?_map, hx]
  rfl

theorem own_sl {w : World} {g : Nat} {bs : List Int} (h : Own w g bs) (hl : bs.length ≤ 1000000000) : Sl w (.slice (some ⟨g, 0, none⟩) bs.length bs.length) bs :=
  sl_of_owns (h.owns (B := 0) (Nat.zero_le _) (by unfold maxLen; omega))

set_option maxRecDepth 100000 in
set_option maxHeartbeats 4000000 in
theorem known_any (w : World) : Calls Try.prog 9 #[] w fun e w' => e = .returned (.bool true) ∧ Below w.heap.size w w' := by
  have H0 := hid (kb_start w)
  have HC := hid (fun B S W hW => bcheck_any B 1 S kTs W hW kb_L (by decide))
  rw [kb_chk] at HC
  have HN := hid (fun W => bcheck_any 0 0 (.slice none 0 0) [] W ⟨none, 0, rfl, Nat.le_refl _, fun h => absurd rfl h⟩ (by intro t ht; simp at ht) (by decide))
  rw [kb_none] at HN
  have HE := hid (fun B S W hW => bencode_any B 1 S kTs W hW kb_L (by decide) kb_ok)
  have HD := hid (fun v W hW => bdecode_any v kB W hW kb_oct)
  rw [kb_dec] at HD
  rw [kb_enc] at HE
  unfold BEnc at HE
  unfold DB at HD
  dsimp only at HC HN HE HD
  have HSm := hid (fun S S' W h1 h2 => bsame_any 0 0 1 S kTs 1 S' kTs W h1 h2 kb_L (by decide))
  rw [decide_eq_true (And.intro rfl rfl)] at HSm
  go_enter Try.func9, Try.ntmps9
  go_upto_region 4 with (first
    | (go_at_call 8
       refine (HE.out _ _ _ H0.out.ts).mono ?_
       rintro e w1 ⟨hb1, g1, rfl, ho1, hg1⟩
       rw [show kB.length = 9 from rfl]
       have H1 := hid (And.intro (H0.out.below hb1) ho1)
       have hcv := conv9 w1
       clear hb1 ho1 hg1)
    | (go_at_call 10
       refine (HD.out _ _ (sl_k9 w1)).mono ?_
       rintro e w2 ⟨hb2, S, rfl, hts⟩
       have H2 := hid (And.intro (H1.out.1.below (below_on (below1 w1 _) hb2)) (And.intro (blk_of (below_on (below1 w1 _) hb2) H1.out.2 (lt_of H1.out.2)) (hts.mono (Nat.zero_le _))))
       obtain ⟨ao, cap, rfl⟩ := hts.form
       clear hb2 hts))
  have H3 := hid (And.intro (H2.out.1.below (below1 w2 (bo 1 (.slice ao kTs.length cap)))) (And.intro (blk_of (below1 w2 (bo 1 (.slice ao kTs.length cap))) H2.out.2.1 (lt_of H2.out.2.1)) (And.intro (H2.out.2.2.below (below1 w2 (bo 1 (.slice ao kTs.length cap)))) (heap_alloc_new w2 (bo 1 (.slice ao kTs.length cap))))))
  generalize w2.alloc (bo 1 (.slice ao kTs.length cap)) = W3 at H3 ⊢
  have hcv2 := conv9 W3
  obtain ⟨p0, p1, -⟩ := vfacts2 H3.out.1.b2
  obtain ⟨q0, q1, -⟩ := vfacts2 H3.out.2.2.2
  clear H0 H1 H2 HE HD hcv
  go_wp2_with (first
    | (go_at_call 13
       refine (bytes_any _ _ kB kB _ (own_sl (blk_of (below1 W3 _) H3.out.2.1 (lt_of H3.out.2.1)) (by decide)) (sl_k9 W3) (by decide)).mono ?_
       rintro e w4 ⟨hd4, rfl⟩
       rw [decide_eq_true rfl]
       have hb4 := below_on (below1 W3 _) hd4.below
       have H4 := hid (And.intro (H3.out.1.below hb4) (And.intro (H3.out.2.2.1.below hb4) (blk_of hb4 H3.out.2.2.2 (lt_of H3.out.2.2.2))))
       obtain ⟨p0, p1, -⟩ := vfacts2 H4.out.1.b2
       obtain ⟨q0, q1, -⟩ := vfacts2 H4.out.2.2
       clear hd4 hb4 H3)
    | (go_at_call 11
       refine (HSm.out _ _ _ H4.out.1.ts H4.out.2.1).mono ?_
       rintro e w5 ⟨rfl, hb5⟩
       have H5 := hid (H4.out.1.below hb5)
       obtain ⟨p0, p1, -⟩ := vfacts2 H5.out.b2
       clear hb5 H4)
    | (go_at_call 7
       first
       | (refine (HC.out _ _ _ H5.out.ts).mono ?_
          rintro e w6 ⟨rfl, hb6⟩
          have H6 := hid (below_on H5.out.hb hb6)
          clear hb6 H5)
       | (refine (HN.out _).mono ?_
          rintro e w7 ⟨rfl, hb7⟩
          have H7 := hid (below_on H6.out hb7)
          clear hb7 H6)))
  go_ret
  exact ⟨rfl, H7.out⟩

end Go.Proofs.Ytdnlfacfleemeaa
