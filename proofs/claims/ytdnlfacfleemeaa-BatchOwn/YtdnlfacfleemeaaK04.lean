import Derived.Test.YtdnlfacfleemeaaK03
import Derived.Test.YtdnlfacfleemeaaK01
import Derived.Test.YtdnlfacfleemeaaK02
namespace Go.Proofs.Ytdnlfacfleemeaa
open Go.RowKit

/-- An instruction's cells at an address. -/
structure InsAt (w : World) (b o : Nat) (x : Ins) : Prop where
  c0 : w.cell? ⟨b, o, none⟩ = some (.int .i64 x.op)
  c1 : w.cell? ⟨b, o + 1, none⟩ = some (.int .i64 x.a)
  c2 : w.cell? ⟨b, o + 2, none⟩ = some (.int .i64 x.b)
  c3 : w.cell? ⟨b, o + 3, none⟩ = some (.int .i64 x.c)
  c4 : w.cell? ⟨b, o + 4, none⟩ = some (.int .i64 x.n)
  c5 : w.cell? ⟨b, o + 5, none⟩ = some (.int .i64 x.k)
  c6 : w.cell? ⟨b, o + 6, none⟩ = some (.int .i64 x.i)
  c7 : w.cell? ⟨b, o + 7, none⟩ = some (.string x.t)

theorem InsAt.same {w w' : World} {b o : Nat} {x : Ins} (h : InsAt w b o x) (hb : w'.heap[b]? = w.heap[b]?) : InsAt w' b o x := by
  have e : ∀ k, w'.cell? ⟨b, k, none⟩ = w.cell? ⟨b, k, none⟩ := fun k => World.cell?_of_block (a := ⟨b, k, none⟩) hb
  exact ⟨(e _).trans h.c0, (e _).trans h.c1, (e _).trans h.c2, (e _).trans h.c3, (e _).trans h.c4, (e _).trans h.c5, (e _).trans h.c6, (e _).trans h.c7⟩

theorem InsAt.lt {w : World} {b o : Nat} {x : Ins} (h : InsAt w b o x) : b < w.heap.size := World.block_lt_of_cell? w _ h.c0

/-- A list of instructions in memory. -/
def CodeAt (w : World) (v : Value) (xs : List Ins) : Prop :=
  ∃ ao cap, v = .slice ao xs.length cap ∧ xs.length ≤ cap ∧ (xs ≠ [] → ∃ b off, ao = some ⟨b, off, none⟩ ∧ ∀ j x, xs[j]? = some x → InsAt w b (off + j * 8) x)

theorem CodeAt.below {w w' : World} {v : Value} {xs : List Ins} (h : CodeAt w v xs) (hb : Below w.heap.size w w') : CodeAt w' v xs := by
  obtain ⟨ao, cap, h1, h2, h3⟩ := h
  refine ⟨ao, cap, h1, h2, fun hn => ?_⟩
  obtain ⟨b, off, h4, h5⟩ := h3 hn
  exact ⟨b, off, h4, fun j x hx => (h5 j x hx).same (hb.block b (h5 j x hx).lt)⟩

/-- The error of an instruction. -/
def insErr (x : Ins) (ar bh : Int) : Int := if 1 ≤ x.op ∧ x.op ≤ 16 then opErr (opF (opN x.op)) (opN x.op == 1) x ar bh else 16

/-- The first that offends. -/
def codeChk (ar : Int) (len : Nat) : Nat → List Ins → Int × Int
  | _, [] => (0, 0)
  | i, x :: xs => if insErr x ar ((len : Int) - 1 - i) = 0 then codeChk ar len (i + 1) xs else ((i : Int), insErr x ar ((len : Int) - 1 - i))

/-- What Check answers. -/
def procChk (nm : ByteArray) (ar : Int) (xs : List Ins) : Int × Int :=
  if nameB nm = true then if withinB ar 0 16 = true then if xs.length ≤ 64 then codeChk ar xs.length 0 xs else (-1, 4) else (-1, 1) else (-1, 5)

abbrev po (nm : ByteArray) (ar : Int) (S : Value) : Obj := .cells #[.string nm, .int .i64 ar, S] 27

theorem opF_len (i : Nat) : (opF i).length ≤ 100 := by
  unfold opF
  split <;> simp

/-- While it goes round. -/
structure Pst (w W : World) (nm : ByteArray) (ar : Int) (S : Value) (G : Nat) : Prop where
  r0 : W.heap[w.heap.size]? = some (po nm ar S)
  tb : Tbl W G
  hb : Below w.heap.size w W

theorem Pst.below {w W W' : World} {nm : ByteArray} {ar : Int} {S : Value} {G : Nat} (h : Pst w W nm ar S G) (hb : Below W.heap.size W W') : Pst w W' nm ar S G :=
  ⟨blk_of hb h.r0 (lt_of h.r0), h.tb.below hb, below_on h.hb hb⟩

theorem pst_start {w w1 : World} {nm : ByteArray} {ar : Int} {S : Value} {G : Nat} (ht : Tbl w1 G) (hb : Below (w.alloc (po nm ar S)).heap.size (w.alloc (po nm ar S)) w1) : Pst w w1 nm ar S G :=
  ⟨blk_of hb (heap_alloc_new w _) (by simp), ht, (below1 w _).trans (hb.mono (below1 w (po nm ar S)).size)⟩

theorem pround {w wr w2 : World} {nm : ByteArray} {ar : Int} {S : Value} {G : Nat} {o : Obj} (h : Pst w wr nm ar S G) (hb : Below (wr.alloc o).heap.size (wr.alloc o) w2) :
    Pst w w2 nm ar S G ∧ w2.heap[wr.heap.size]? = some o :=
  ⟨(h.below (below1 wr o)).below hb, blk_of hb (heap_alloc_new wr o) (by simp)⟩

set_option maxRecDepth 100000 in
set_option maxHeartbeats 4000000 in
theorem pcheck_any (nm : ByteArray) (ar : Int) (S : Value) (xs : List Ins) (w : World) (h : CodeAt w S xs) (hl : xs.length ≤ 1000000000) :
    Calls Try.prog 40 #[.agg #[.string nm, .int .i64 ar, S]] w fun e w' => e = .returned (.tuple #[.int .i64 (procChk nm ar xs).1, .int .i64 (procChk nm ar xs).2]) ∧ Below w.heap.size w w' := by
  obtain ⟨ao, cap, rfl, hcap, hcells⟩ := h
  obtain ⟨R1, R2, hR⟩ : ∃ R1 R2, procChk nm ar xs = (R1, R2) := ⟨_, _, rfl⟩
  rw [hR]
  dsimp only
  have HR := hid hR
  have HC := hid hcells
  have HN := hid (isName_any nm)
  have HW := hid (within_any ar 0 16)
  clear hR hcells
  have hB0 := hid (below1 w (po nm ar (.slice ao xs.length cap)))
  by_cases h1 : nameB nm = true
  · rw [h1] at HN
    by_cases h2 : withinB ar 0 16 = true
    · rw [h2] at HW
      by_cases h3 : xs.length ≤ 64
      · have HR2 := HR.out
        rw [procChk, if_pos h1, if_pos h2, if_pos h3] at HR2
        have H2 := hid HR2
        have h3' : (xs.length : Int) ≤ 64 := by omega
        clear HR2 HR h1
        go_enter Try.func40, Try.ntmps40
        go_wp2_with (first
          | (go_at_call 54; refine (HN.out _).mono ?_; rintro e w' ⟨rfl, e1⟩; rw [e1]; clear e1 w')
          | (go_at_call 55; refine (HW.out _).mono ?_; rintro e w' ⟨rfl, e1⟩; rw [e1]; clear e1 w')
          | (go_at_call 41
             refine (operations_any _).mono ?_
             rintro e w1 ⟨G, rfl, ht, hG, hb⟩
             have H1 := hid (pst_start ht hb)
             obtain ⟨p0, p1, p2, -⟩ := vfacts H1.out.r0
             clear hb))
        go_loopw [29] (fun ix wr => ∃ (n : Nat), n ≤ xs.length ∧ ix = .int .i64 n ∧ Hid (Pst w wr nm ar (.slice ao xs.length cap) G) ∧ Hid (codeChk ar xs.length n (xs.drop n) = (R1, R2))) (fun ix _ => xs.length - (intOf ix).toNat)
        case atStart => exact ⟨0, Nat.zero_le _, rfl, H1, hid H2.out⟩
        case round =>
          clear H1 p0 p1 p2
          obtain ⟨n, hn, rfl, hP, hK⟩ := hrel
          by_cases hlt : n < xs.length
          · obtain ⟨x, hx⟩ : ∃ x, xs[n]? = some x := ⟨_, List.getElem?_eq_getElem hlt⟩
            obtain ⟨b, off, rfl, hat⟩ := HC.out (by intro e; rw [e] at hlt; simp at hlt)
            have hat := hat n x hx
            obtain ⟨c0, c1, c2, c3, c4, c5, c6, c7⟩ := hat.same (hP.out.hb.block b hat.lt)
            have hbl := hat.lt
            have hdrop : xs.drop n = x :: xs.drop (n + 1) := by
              rw [List.drop_eq_getElem_cons hlt]
              congr 1
              have := List.getElem?_eq_getElem hlt
              rw [hx] at this
              exact (Option.some.inj this).symm
            rw [hdrop] at hK
            have hk2 := hK.out
            rw [codeChk] at hk2
            have hlt' : (n : Int) < (xs.length : Int) := by omega
            obtain ⟨ao2, n2, cc2, hsS⟩ := opS_form G (opN x.op)
            obtain ⟨p0, p1, p2, -⟩ := vfacts hP.out.r0
            have m1 := lt_of hP.out.r0
            have m2 := World.new_ne wr ⟨b, off + n * 8, none⟩ c0
            have HS := hid hsS
            by_cases hop : 1 ≤ x.op ∧ x.op ≤ 16
            · by_cases he : insErr x ar ((xs.length : Int) - 1 - n) = 0
              · rw [if_pos he] at hk2
                rw [insErr, if_pos hop] at he
                have HE := hid he
                have HK2 := hid hk2
                have HO := hid hop
                clear hk2 hK hdrop he hx hat hop hsS
                go_wp2_with (first
                  | (go_at_call 42
                     refine (find_any G x.op _ (hP.out.tb.below (below1 wr _))).mono ?_
                     rintro e w2 ⟨rfl, hb2⟩
                     rw [findV, HS.out, decide_eq_true HO.out]
                     have H2' := hid (pround hP.out hb2)
                     obtain ⟨p0, p1, p2, -⟩ := vfacts H2'.out.1.r0
                     obtain ⟨q0, q1, q2, q3, q4, q5, q6, q7, -⟩ := vfacts8 H2'.out.2
                     have k1 := lt_of H2'.out.1.r0
                     have k2 := lt_of H2'.out.2
                     clear hb2)
                  | (go_at_call 56
                     refine (opcheck_any _ (opF (opN x.op)) (opN x.op == 1) x ar ((xs.length : Int) - 1 - n) _ (HS.out ▸ (H2'.out.1.tb.fs (opN x.op)).below (below1 _ _)) (opF_len _)).mono ?_
                     rintro e w3 ⟨rfl, hb3⟩
                     rw [HE.out]
                     have H3 := hid (Pst.below (H2'.out.1.below (below1 _ _)) hb3)
                     clear hb3))
                go_roundw
                case rel => exact ⟨n + 1, by omega, by go_num, H3, HK2⟩
                case measure => simp [intOf]; omega
              · rw [if_neg he] at hk2
                rw [insErr, if_pos hop] at he hk2
                obtain ⟨E, hE⟩ : ∃ E, E = opErr (opF (opN x.op)) (opN x.op == 1) x ar ((xs.length : Int) - 1 - n) := ⟨_, rfl⟩
                rw [← hE] at he hk2
                have he2 : (E == 0) = false := by simpa using he
                have HE := hid hE
                have HK2 := hid hk2
                have HO := hid hop
                clear hk2 hK hdrop he hx hat hop hsS hE
                go_wp2_with (first
                  | (go_at_call 42
                     refine (find_any G x.op _ (hP.out.tb.below (below1 wr _))).mono ?_
                     rintro e w2 ⟨rfl, hb2⟩
                     rw [findV, HS.out, decide_eq_true HO.out]
                     have H2' := hid (pround hP.out hb2)
                     obtain ⟨p0, p1, p2, -⟩ := vfacts H2'.out.1.r0
                     obtain ⟨q0, q1, q2, q3, q4, q5, q6, q7, -⟩ := vfacts8 H2'.out.2
                     have k1 := lt_of H2'.out.1.r0
                     have k2 := lt_of H2'.out.2
                     clear hb2)
                  | (go_at_call 56
                     refine (opcheck_any _ (opF (opN x.op)) (opN x.op == 1) x ar ((xs.length : Int) - 1 - n) _ (HS.out ▸ (H2'.out.1.tb.fs (opN x.op)).below (below1 _ _)) (opF_len _)).mono ?_
                     rintro e w3 ⟨rfl, hb3⟩
                     rw [← HE.out]
                     have H3 := hid (Pst.below (H2'.out.1.below (below1 _ _)) hb3)
                     clear hb3))
                go_ret2
                have := HK2.out
                simp only [Prod.mk.injEq] at this
                obtain ⟨rfl, rfl⟩ := this
                exact ⟨rfl, H3.out.hb⟩
            · rw [insErr, if_neg hop, if_neg (by omega)] at hk2
              have HK2 := hid hk2
              have HO := hid hop
              clear hk2 hK hdrop hx hat hop hsS
              go_wp2_with (first
                | (go_at_call 42
                   refine (find_any G x.op _ (hP.out.tb.below (below1 wr _))).mono ?_
                   rintro e w2 ⟨rfl, hb2⟩
                   rw [findV, HS.out, decide_eq_false HO.out]
                   have H2' := hid (pround hP.out hb2)
                   obtain ⟨p0, p1, p2, -⟩ := vfacts H2'.out.1.r0
                   obtain ⟨q0, q1, q2, q3, q4, q5, q6, q7, -⟩ := vfacts8 H2'.out.2
                   have k1 := lt_of H2'.out.1.r0
                   have k2 := lt_of H2'.out.2
                   clear hb2))
              go_ret2
              have := HK2.out
              simp only [Prod.mk.injEq] at this
              obtain ⟨rfl, rfl⟩ := this
              exact ⟨rfl, (H2'.out.1.below (below1 _ _)).hb⟩
          · have hdrop : xs.drop n = [] := List.drop_eq_nil_of_le (by omega)
            rw [hdrop] at hK
            have hk2 := hK.out
            rw [codeChk] at hk2
            have HK2 := hid hk2
            clear hK hk2 hdrop
            go_wp2
            go_ret2
            have := HK2.out
            simp only [Prod.mk.injEq] at this
            obtain ⟨rfl, rfl⟩ := this
            exact ⟨rfl, hP.out.hb⟩
      · have HR2 := HR.out
        rw [procChk, if_pos h1, if_pos h2, if_neg h3] at HR2
        have H2 := hid HR2
        have h3' : (64 : Int) < (xs.length : Int) := by omega
        clear HR2 HR h1
        go_enter Try.func40, Try.ntmps40
        go_wp2_with (first
          | (go_at_call 54; refine (HN.out _).mono ?_; rintro e w' ⟨rfl, e1⟩; rw [e1]; clear e1 w')
          | (go_at_call 55; refine (HW.out _).mono ?_; rintro e w' ⟨rfl, e1⟩; rw [e1]; clear e1 w'))
        go_ret2
        have := H2.out
        simp only [Prod.mk.injEq] at this
        obtain ⟨rfl, rfl⟩ := this
        exact ⟨rfl, hB0.out⟩
    · have h2f : withinB ar 0 16 = false := by simpa using h2
      rw [h2f] at HW
      have HR2 := HR.out
      rw [procChk, if_pos h1, if_neg h2] at HR2
      have H2 := hid HR2
      clear HR2 HR h1 h2
      go_enter Try.func40, Try.ntmps40
      go_wp2_with (first
        | (go_at_call 54; refine (HN.out _).mono ?_; rintro e w' ⟨rfl, e1⟩; rw [e1]; clear e1 w')
        | (go_at_call 55; refine (HW.out _).mono ?_; rintro e w' ⟨rfl, e1⟩; rw [e1]; clear e1 w'))
      go_ret2
      have := H2.out
      simp only [Prod.mk.injEq] at this
      obtain ⟨rfl, rfl⟩ := this
      exact ⟨rfl, hB0.out⟩
  · have h1f : nameB nm = false := by simpa using h1
    rw [h1f] at HN
    have HR2 := HR.out
    rw [procChk, if_neg h1] at HR2
    have H2 := hid HR2
    clear HR2 HR h1
    go_enter Try.func40, Try.ntmps40
    go_wp2_with (first
      | (go_at_call 54; refine (HN.out _).mono ?_; rintro e w' ⟨rfl, e1⟩; rw [e1]; clear e1 w'))
    go_ret2
    have := H2.out
    simp only [Prod.mk.injEq] at this
    obtain ⟨rfl, rfl⟩ := this
    exact ⟨rfl, hB0.out⟩

end Go.Proofs.Ytdnlfacfleemeaa

namespace Go.Proofs.Ytdnlfacfleemeaa
open Go.RowKit

/-- A value's bytes. -/
def encB (k i : Int) (s : ByteArray) : List Int := if k = 1 then [1] ++ rowF 10 (foldZ i) else if k = 2 then [2] ++ rowF 10 (strBs s).length ++ strBs s else [0]

/-- A new Writer. -/
theorem wr_new (w : World) (B : Nat) : Wr B (w.alloc (.cells #[.slice none 0 0, .int .i64 0] 57)) w.heap.size none [] 0 :=
  ⟨.slice none 0 0, heap_alloc_new w _, rfl, rfl, .inl ⟨rfl, rfl⟩⟩

theorem fix1 (k : Int) (h0 : 0 ≤ k) (h1 : k < 256) (bs : List Int) : wfixZ (bs, 0) k 1 = (bs ++ [k], 0) := by
  unfold wfixZ
  rw [if_pos rfl, if_neg (by omega)]
  simp [fixedB, List.range_succ]
  omega

/-- What Encode answers where a value is none. -/
def EncNo (r : Int) (w : World) (e : Ending) (w' : World) : Prop := e = .returned (.tuple #[.slice none 0 0, .int .i64 r]) ∧ Below w.heap.size w w'

set_option maxRecDepth 100000 in
set_option maxHeartbeats 800000 in
theorem encode_no (k i : Int) (s : ByteArray) (r : Int) (hr : chk k i s = r) (h0 : r ≠ 0) (w : World) : Calls Try.prog 31 #[vl k i s] w (EncNo r w) := by
  have hB0 := hid (below1 w (vo k i s))
  have hc := check_any k i s
  rw [hr] at hc
  have HC := hid hc
  have hb : (r == 0) = false := by simpa using h0
  clear hc hr
  unfold EncNo
  go_enter Try.func31, Try.ntmps31
  go_wp2_with (
    go_at_call 25
    refine (HC.out _).mono ?_
    rintro e w1 ⟨rfl, hb1⟩
    have H1 := hid (below_on hB0.out hb1)
    clear hb1)
  go_ret2
  exact ⟨rfl, H1.out⟩

/-- What Encode answers of a value. -/
def EncOk (bs : List Int) (w : World) (e : Ending) (w' : World) : Prop := ∃ g, e = .returned (.tuple #[.slice (some ⟨g, 0, none⟩) bs.length bs.length, .int .i64 0]) ∧ Own w' g bs ∧ w.heap.size ≤ g ∧ Below w.heap.size w w'

/-- Behind the first byte. -/
theorem enc_step {w w1 w2 : World} {a b c : Value} {bs : List Int} {e : Int} (h1 : w1.heap[w.heap.size]? = some (.cells #[a, b, c] 50 (0, 0))) (h2 : Below w.heap.size w w1)
    (h : WrStep w.heap.size w1.heap.size none (w1.alloc (.cells #[.slice none 0 0, .int .i64 0] 57)) w2 bs e) :
    w2.heap[w.heap.size]? = some (.cells #[a, b, c] 50 (0, 0)) ∧ ∃ g', Wr w.heap.size w2 w1.heap.size g' bs e ∧ Below w.heap.size w w2 := by
  obtain ⟨g', hW, _, hK⟩ := h
  have hlt := lt_of h1
  refine ⟨?_, g', hW, ?_⟩
  · rw [hK.block _ (by simp; omega) (by rintro (h | h); omega; cases h), Below.heap_alloc _ _ _ hlt]
    exact h1
  · refine (h2.alloc h2.size _).trans (hK.below (by simp; have := h2.size; omega) ?_)
    rintro k hk (h | h)
    · have := h2.size; omega
    · cases h

/-- Behind a further one. -/
theorem enc_step2 {w w3 w4 : World} {p : Nat} {g : Option Nat} {bs bs2 : List Int} {e e2 : Int} (hp : w.heap.size ≤ p) (h2 : Below w.heap.size w w3) (hW : Wr w.heap.size w3 p g bs e)
    (h : WrStep w.heap.size p g w3 w4 bs2 e2) : ∃ g', Wr w.heap.size w4 p g' bs2 e2 ∧ Below w.heap.size w w4 := by
  obtain ⟨g', hW2, _, hK⟩ := h
  refine ⟨g', hW2, h2.trans (hK.below h2.size ?_)⟩
  rintro k hk (h | h)
  · omega
  · have := hW.glt k h; omega

set_option maxRecDepth 100000 in
set_option maxHeartbeats 1600000 in
theorem encode_int (i : Int) (h0 : -9223372036854775808 ≤ i) (h1 : i < 9223372036854775808) (w : World) : Calls Try.prog 31 #[vl 1 i emp] w (EncOk (encB 1 i emp) w) := by
  have hB0 := hid (below1 w (vo 1 i emp))
  have hR0 := hid (heap_alloc_new w (vo 1 i emp))
  have hc := check_any 1 i emp
  rw [show chk 1 i emp = 0 by simp [chk]] at hc
  have HC := hid hc
  have HE := hid (show wintZ ([1], 0) i = (encB 1 i emp, 0) by simp [wintZ, encB])
  have HL := hid (show (encB 1 i emp).length ≤ 1000000 by simp [encB]; have := rowF_le 10 (foldZ i); omega)
  clear hc
  unfold EncOk
  have q1 := ta60
  have q2 := ta6260
  have q3 := ta62
  have q4 := tan60
  have q5 := tan62
  go_enter Try.func31, Try.ntmps31
  go_wp2_with (first
    | (go_at_call 25
       refine (HC.out _).mono ?_
       rintro e w1 ⟨rfl, hb1⟩
       have g1 := blk_of hb1 hR0.out (by simp)
       obtain ⟨c0, c1, c2, -⟩ := vfacts g1
       have n0 : w.heap.size < w1.heap.size := lt_of g1
       have H1 := hid (And.intro g1 (below_on hB0.out hb1))
       clear hb1 g1)
    | (go_at_call 28
       refine (wbyte_any w.heap.size w1.heap.size none [] 0 _ 1 (wr_new w1 _) (by simp; exact Nat.le_trans H1.out.2.size (Nat.le_succ _)) (by omega) (by omega) (by simp)).mono ?_
       rintro e w2 ⟨rfl, hs2⟩
       rw [fix1 1 (by omega) (by omega)] at hs2
       have H2 := hid (enc_step H1.out.1 H1.out.2 hs2)
       obtain ⟨c0, c1, c2, -⟩ := vfacts H2.out.1
       clear hs2)
    | (go_at_call 44
       refine (thingOf_any 1 i emp _).mono ?_
       rintro e w3 ⟨rfl, hb3⟩
       rw [thing1]
       obtain ⟨g', hW, hK⟩ := H2.out.2
       have H3 := hid (And.intro (hW.kept (Kept.ofBelow hb3) (fun h => h) (fun _ _ h => h)) (below_on hK hb3))
       clear hb3 hW hK)
    | (go_at_call 45
       refine (wint_any w.heap.size w1.heap.size g' [1] 0 _ i H3.out.1 H3.out.2.size h0 h1 (by simp)).mono ?_
       rintro e w4 ⟨rfl, hs4⟩
       have H4 := hid (enc_step2 H1.out.2.size H3.out.2 H3.out.1 hs4)
       clear hs4)
    | (go_at_call 19
       obtain ⟨g4, hW4, hB4⟩ := H4.out
       rw [HE.out] at hW4
       refine (wdata_any w.heap.size w1.heap.size g4 _ _ _ hW4 (by have := HL.out; simp only [] at *; omega)).mono ?_
       rintro e w5 ⟨rfl, ho5, hb5⟩
       have H5 := hid (And.intro ho5 (And.intro hB4.size (below_on hB4 hb5)))
       clear ho5 hb5))
  go_ret2
  exact ⟨_, rfl, H5.out.1, H5.out.2.1, H5.out.2.2⟩

set_option maxRecDepth 100000 in
set_option maxHeartbeats 1600000 in
theorem encode_text (s : ByteArray) (hs : s.size ≤ 256) (w : World) : Calls Try.prog 31 #[vl 2 0 s] w (EncOk (encB 2 0 s) w) := by
  have hB0 := hid (below1 w (vo 2 0 s))
  have hR0 := hid (heap_alloc_new w (vo 2 0 s))
  have hc := check_any 2 0 s
  rw [show chk 2 0 s = 0 by simp [chk]; omega] at hc
  have HC := hid hc
  have HE := hid (show wtextZ ([2], 0) (strBs s) = (encB 2 0 s, 0) by simp [wtextZ, encB])
  have HL := hid (show (encB 2 0 s).length ≤ 1000000 by simp [encB, strBs_len]; have := rowF_le 10 s.size; omega)
  clear hc
  unfold EncOk
  have q1 := ta60
  have q2 := ta6260
  have q3 := ta62
  have q4 := tan60
  have q5 := tan62
  go_enter Try.func31, Try.ntmps31
  go_wp2_with (first
    | (go_at_call 25
       refine (HC.out _).mono ?_
       rintro e w1 ⟨rfl, hb1⟩
       have g1 := blk_of hb1 hR0.out (by simp)
       obtain ⟨c0, c1, c2, -⟩ := vfacts g1
       have n0 : w.heap.size < w1.heap.size := lt_of g1
       have H1 := hid (And.intro g1 (below_on hB0.out hb1))
       clear hb1 g1)
    | (go_at_call 28
       refine (wbyte_any w.heap.size w1.heap.size none [] 0 _ 2 (wr_new w1 _) (by simp; exact Nat.le_trans H1.out.2.size (Nat.le_succ _)) (by omega) (by omega) (by simp)).mono ?_
       rintro e w2 ⟨rfl, hs2⟩
       rw [fix1 2 (by omega) (by omega)] at hs2
       have H2 := hid (enc_step H1.out.1 H1.out.2 hs2)
       obtain ⟨c0, c1, c2, -⟩ := vfacts H2.out.1
       clear hs2)
    | (go_at_call 44
       refine (thingOf_any 2 0 s _).mono ?_
       rintro e w3 ⟨rfl, hb3⟩
       rw [thing2]
       obtain ⟨g', hW, hK⟩ := H2.out.2
       have H3 := hid (And.intro (hW.kept (Kept.ofBelow hb3) (fun h => h) (fun _ _ h => h)) (below_on hK hb3))
       clear hb3 hW hK)
    | (go_at_call 30
       refine (wtext_any w.heap.size w1.heap.size g' [2] 0 _ s H3.out.1 H3.out.2.size (by omega) (by simp)).mono ?_
       rintro e w4 ⟨rfl, hs4⟩
       have H4 := hid (enc_step2 H1.out.2.size H3.out.2 H3.out.1 hs4)
       clear hs4)
    | (go_at_call 19
       obtain ⟨g4, hW4, hB4⟩ := H4.out
       rw [HE.out] at hW4
       refine (wdata_any w.heap.size w1.heap.size g4 _ _ _ hW4 (by have := HL.out; simp only [] at *; omega)).mono ?_
       rintro e w5 ⟨rfl, ho5, hb5⟩
       have H5 := hid (And.intro ho5 (And.intro hB4.size (below_on hB4 hb5)))
       clear ho5 hb5))
  go_ret2
  exact ⟨_, rfl, H5.out.1, H5.out.2.1, H5.out.2.2⟩

set_option maxRecDepth 100000 in
set_option maxHeartbeats 1600000 in
theorem encode_none (w : World) : Calls Try.prog 31 #[vl 0 0 emp] w (EncOk (encB 0 0 emp) w) := by
  have hB0 := hid (below1 w (vo 0 0 emp))
  have hR0 := hid (heap_alloc_new w (vo 0 0 emp))
  have hc := check_any 0 0 emp
  rw [show chk 0 0 emp = 0 by simp [chk]] at hc
  have HC := hid hc
  have HE := hid (show (([0], 0) : List Int × Int) = (encB 0 0 emp, 0) by simp [encB])
  have HL := hid (show (encB 0 0 emp).length ≤ 1000000 by simp [encB])
  clear hc
  unfold EncOk
  have q1 := ta60
  have q2 := ta6260
  have q3 := ta62
  have q4 := tan60
  have q5 := tan62
  go_enter Try.func31, Try.ntmps31
  go_wp2_with (first
    | (go_at_call 25
       refine (HC.out _).mono ?_
       rintro e w1 ⟨rfl, hb1⟩
       have g1 := blk_of hb1 hR0.out (by simp)
       obtain ⟨c0, c1, c2, -⟩ := vfacts g1
       have n0 : w.heap.size < w1.heap.size := lt_of g1
       have H1 := hid (And.intro g1 (below_on hB0.out hb1))
       clear hb1 g1)
    | (go_at_call 28
       refine (wbyte_any w.heap.size w1.heap.size none [] 0 _ 0 (wr_new w1 _) (by simp; exact Nat.le_trans H1.out.2.size (Nat.le_succ _)) (by omega) (by omega) (by simp)).mono ?_
       rintro e w2 ⟨rfl, hs2⟩
       rw [fix1 0 (by omega) (by omega)] at hs2
       have H2 := hid (enc_step H1.out.1 H1.out.2 hs2)
       obtain ⟨c0, c1, c2, -⟩ := vfacts H2.out.1
       clear hs2)
    | (go_at_call 44
       refine (thingOf_any 0 0 emp _).mono ?_
       rintro e w3 ⟨rfl, hb3⟩
       rw [thing0 0 emp (by omega) (by omega)]
       obtain ⟨g', hW, hK⟩ := H2.out.2
       have H3 := hid (And.intro (hW.kept (Kept.ofBelow hb3) (fun h => h) (fun _ _ h => h)) (below_on hK hb3))
       clear hb3 hW hK)
    | (go_at_call 19
       obtain ⟨hW4, hB4⟩ := H3.out
       have hW4 : Wr w.heap.size w3 w1.heap.size g' (([0], 0) : List Int × Int).1 (([0], 0) : List Int × Int).2 := hW4
       rw [HE.out] at hW4
       refine (wdata_any w.heap.size w1.heap.size g' _ _ _ hW4 (by have := HL.out; simp only [] at *; omega)).mono ?_
       rintro e w5 ⟨rfl, ho5, hb5⟩
       have H5 := hid (And.intro ho5 (And.intro hB4.size (below_on hB4 hb5)))
       clear ho5 hb5))
  go_ret2
  exact ⟨_, rfl, H5.out.1, H5.out.2.1, H5.out.2.2⟩

/-- What Encode answers. -/
theorem encode_any (k i : Int) (s : ByteArray) (h0 : -9223372036854775808 ≤ i) (h1 : i < 9223372036854775808) (w : World) :
    Calls Try.prog 31 #[vl k i s] w fun e w' => (chk k i s ≠ 0 ∧ EncNo (chk k i s) w e w') ∨ (chk k i s = 0 ∧ EncOk (encB k i s) w e w') := by
  by_cases hc : chk k i s = 0
  · refine Calls.mono (R := EncOk (encB k i s) w) ?_ (fun e w' h => .inr ⟨hc, h⟩)
    unfold chk at hc
    split at hc
    · rename_i hk
      subst hk
      split at hc
      · rename_i hs
        subst hs
        exact encode_int i h0 h1 w
      · omega
    · split at hc
      · rename_i hk
        subst hk
        split at hc
        · rename_i hi
          subst hi
          split at hc
          · omega
          · exact encode_text s (by omega) w
        · omega
      · split at hc
        · rename_i hk
          obtain ⟨rfl, rfl, rfl⟩ := hk
          exact encode_none w
        · omega
  · exact Calls.mono (encode_no k i s _ rfl hc w) (fun e w' h => .inl ⟨hc, h⟩)

end Go.Proofs.Ytdnlfacfleemeaa

namespace Go.Proofs.Ytdnlfacfleemeaa
open Go.RowKit

/-- All are bytes. -/
def Oct (bs : List Int) : Prop := ∀ x ∈ bs, 0 ≤ x ∧ x < 256

/-- The row of sevens that a list begins with: number, length, error. -/
def rowGo (last : Nat) (top : Int) : List Int → Nat → Int → Int × Int × Int
  | [], _, _ => (0, 0, 2)
  | c :: cs, i, u =>
    if i + 1 = last ∧ top < c then (0, 0, 15)
    else if 128 ≤ c then rowGo last top cs (i + 1) (u + c % 128 * 128 ^ i)
    else if 0 < i ∧ c = 0 then (0, 0, 3)
    else (u + c % 128 * 128 ^ i, (i : Int) + 1, 0)

/-- The number of bytes, the lowest first. -/
def leZ : List Int → Int
  | [] => 0
  | c :: cs => c + 256 * leZ cs

theorem leZ_snoc (l : List Int) (c : Int) : leZ (l ++ [c]) = leZ l + c * 256 ^ l.length := by
  induction l with
  | nil => simp [leZ]
  | cons a l ih =>
    simp only [List.cons_append, leZ, ih, List.length_cons, Int.pow_succ]
    rw [Int.mul_add, Int.mul_comm 256 (c * 256 ^ l.length), Int.mul_assoc, Int.add_assoc]

theorem leZ_bd (l : List Int) (h : Oct l) : 0 ≤ leZ l ∧ leZ l < 256 ^ l.length := by
  induction l with
  | nil => simp [leZ]
  | cons a l ih =>
    have h1 := ih (fun x hx => h x (List.mem_cons_of_mem _ hx))
    have h2 := h a (List.mem_cons_self ..)
    simp only [leZ, List.length_cons, Int.pow_succ]
    omega

theorem take_snoc (l : List Int) (k : Nat) (h : k < l.length) : l.take (k + 1) = l.take k ++ [l[k]] := by
  rw [List.take_succ_eq_append_getElem h]

theorem pow_le8 (k : Nat) (h : k ≤ 8) : (256 : Int) ^ k ≤ 18446744073709551616 := by
  match k, h with
  | 0, _ | 1, _ | 2, _ | 3, _ | 4, _ | 5, _ | 6, _ | 7, _ | 8, _ => decide

/-- One more byte. -/
theorem le_step (u c : Int) (k : Nat) (hk : k < 8) (hu0 : 0 ≤ u) (hu : u < 256 ^ k) (hc0 : 0 ≤ c) (hc : c < 256) :
    bits .or .u64 u (IntKind.u64.wrap (c * 2 ^ (8 * k))) = u + c * 256 ^ k := by
  have e : (2 : Int) ^ (8 * k) = 256 ^ k := by rw [Int.pow_mul]; rfl
  have hp : (0 : Int) < 256 ^ k := Int.pow_pos (by omega)
  have h8 := pow_le8 (k + 1) (by omega)
  rw [Int.pow_succ] at h8
  have hb : c * 256 ^ k ≤ 255 * 256 ^ k := Int.mul_le_mul_of_nonneg_right (by omega) (by omega)
  have hn : 0 ≤ c * 256 ^ k := Int.mul_nonneg hc0 (by omega)
  rw [e, IntKind.wrap_u64, Int.emod_eq_of_lt hn (by omega)]
  refine or_u64 u (c * 256 ^ k) (8 * k) hu0 ?_ hn ?_ ?_ ?_
  · rw [Int.pow_mul]; exact hu
  · rw [Int.pow_mul]; exact Int.mul_emod_left c (256 ^ k)
  · have := pow_le8 k (by omega); omega
  · omega

set_option maxRecDepth 100000 in
set_option maxHeartbeats 800000 in
theorem fixed_any (v : Value) (bs : List Int) (n : Int) (w : World) (h : Sl w v bs) (ho : Oct bs) (hl : bs.length ≤ 1000000000) :
    Calls Try.prog 83 #[v, .int .i64 n] w fun x w' => w' = w ∧ x = .returned (if n < 0 ∨ 8 < n then .tuple #[.int .u64 0, .int .i64 0, .int .i64 1] else if (bs.length : Int) < n then .tuple #[.int .u64 0, .int .i64 0, .int .i64 2] else .tuple #[.int .u64 (leZ (bs.take n.toNat)), .int .i64 n, .int .i64 0]) := by
  obtain ⟨ao, cap, rfl, hc, hx⟩ := h
  by_cases hn : n < 0 ∨ 8 < n
  · rw [if_pos hn]
    rcases hn with hn | hn
    · clear hx
      go_enter Try.func83, Try.ntmps83
      go_wp2
      go_ret3
      exact ⟨rfl, rfl⟩
    · have hn' : ¬ n < 0 := by omega
      clear hx
      go_enter Try.func83, Try.ntmps83
      go_wp2
      go_ret3
      exact ⟨rfl, rfl⟩
  · rw [if_neg hn]
    obtain ⟨k, rfl⟩ := Int.eq_ofNat_of_zero_le (show 0 ≤ n by omega)
    have hk8 : k ≤ 8 := by omega
    clear hn
    by_cases hs : (bs.length : Int) < (k : Int)
    · rw [if_pos hs]
      clear hx
      go_enter Try.func83, Try.ntmps83
      go_wp2
      go_ret3
      exact ⟨rfl, rfl⟩
    · rw [if_neg hs, Int.toNat_natCast]
      have Hx : Hid _ := hx
      clear hx
      go_enter Try.func83, Try.ntmps83
      go_wp2
      go_loop [7, 8, 20] (fun u _ i => ∃ j : Nat, j ≤ k ∧ i = .int .i64 j ∧ u = .int .u64 (leZ (bs.take j))) (fun _ _ i => k - (intOf i).toNat)
      case atStart => exact ⟨0, Nat.zero_le _, rfl, rfl⟩
      case round =>
        obtain ⟨j, hj, rfl, rfl⟩ := hrel
        by_cases hlt : j < k
        · obtain ⟨b, off, rfl, hcell⟩ := Hx.out (by intro e; subst e; simp at hs; omega)
          have hjl : j < bs.length := by omega
          have hcj := hcell j bs[j] (by simp [hjl])
          have hb := ho bs[j] (List.getElem_mem hjl)
          have ht := leZ_bd (bs.take j) (fun x hx => ho x (List.mem_of_mem_take hx))
          have hlen : (bs.take j).length = j := by simp; omega
          rw [hlen] at ht
          have hst := le_step (leZ (bs.take j)) bs[j] j (by omega) ht.1 ht.2 hb.1 hb.2
          have hsn : leZ (bs.take (j + 1)) = leZ (bs.take j) + bs[j] * 256 ^ j := by rw [take_snoc bs j hjl, leZ_snoc, hlen]
          obtain ⟨c, hc'⟩ : ∃ c, c = bs[j] := ⟨_, rfl⟩
          rw [← hc'] at hcj hb hst hsn
          obtain ⟨hb0, hb1⟩ := hb
          have Hs : Hid _ := hsn
          have Hst : Hid _ := hst
          have hw8 : IntKind.i64.wrap (8 * (j : Int)) = 8 * (j : Int) := by rw [IntKind.wrap_i64]; omega
          clear hc' hcell hsn hst ht hlen
          go_wp2
          go_round
          case rel => exact ⟨j + 1, by omega, by go_num, by rw [Hs.out, Hst.out]⟩
          case measure => simp [intOf]; omega
        · obtain rfl : j = k := by omega
          go_wp2
          go_ret3
          exact ⟨rfl, rfl⟩

theorem pow_le9 (k : Nat) (h : k ≤ 9) : (128 : Int) ^ k ≤ 9223372036854775808 := by
  match k, h with
  | 0, _ | 1, _ | 2, _ | 3, _ | 4, _ | 5, _ | 6, _ | 7, _ | 8, _ | 9, _ => decide

/-- One more seven. -/
theorem seven_step (u c : Int) (k : Nat) (hk : k ≤ 9) (hu0 : 0 ≤ u) (hu : u < 128 ^ k) (hc0 : 0 ≤ c) (hc : c < 128) (h9 : k = 9 → c ≤ 1) :
    bits .or .u64 u (IntKind.u64.wrap (c * 2 ^ (7 * k))) = u + c * 128 ^ k := by
  have e : (2 : Int) ^ (7 * k) = 128 ^ k := by rw [Int.pow_mul]; rfl
  have hp : (0 : Int) < 128 ^ k := Int.pow_pos (by omega)
  have hn : 0 ≤ c * 128 ^ k := Int.mul_nonneg hc0 (by omega)
  have hlt : c * 128 ^ k < 18446744073709551616 := by
    by_cases h : k = 9
    · subst h
      have := h9 rfl
      have h1 : c * 128 ^ 9 ≤ 1 * 128 ^ 9 := Int.mul_le_mul_of_nonneg_right this (by omega)
      omega
    · have h8 := pow_le9 (k + 1) (by omega)
      rw [Int.pow_succ] at h8
      have hb : c * 128 ^ k ≤ 127 * 128 ^ k := Int.mul_le_mul_of_nonneg_right (by omega) (by omega)
      omega
  rw [e, IntKind.wrap_u64, Int.emod_eq_of_lt hn hlt]
  refine or_u64 u (c * 128 ^ k) (7 * k) hu0 ?_ hn ?_ ?_ hlt
  · rw [Int.pow_mul]; exact hu
  · rw [Int.pow_mul]; exact Int.mul_emod_left c (128 ^ k)
  · have := pow_le9 k hk; omega

theorem seven_bd (u c : Int) (k : Nat) (hu0 : 0 ≤ u) (hu : u < 128 ^ k) (hc0 : 0 ≤ c) (hc : c < 128) : 0 ≤ u + c * 128 ^ k ∧ u + c * 128 ^ k < 128 ^ (k + 1) := by
  have hp : (0 : Int) < 128 ^ k := Int.pow_pos (by omega)
  have hn : 0 ≤ c * 128 ^ k := Int.mul_nonneg hc0 (by omega)
  have hb : c * 128 ^ k ≤ 127 * 128 ^ k := Int.mul_le_mul_of_nonneg_right (by omega) (by omega)
  rw [Int.pow_succ]
  omega

/-- A tuple of three. -/
def tup3 (x : Int × Int × Int) : Value := .tuple #[.int .u64 x.1, .int .i64 x.2.1, .int .i64 x.2.2]

theorem rowGo_at (last : Nat) (top : Int) (bs : List Int) (j : Nat) (u : Int) (h : j < bs.length) :
    rowGo last top (bs.drop j) j u = if j + 1 = last ∧ top < bs[j] then (0, 0, 15)
    else if 128 ≤ bs[j] then rowGo last top (bs.drop (j + 1)) (j + 1) (u + bs[j] % 128 * 128 ^ j)
    else if 0 < j ∧ bs[j] = 0 then (0, 0, 3)
    else (u + bs[j] % 128 * 128 ^ j, (j : Int) + 1, 0) := by
  rw [List.drop_eq_getElem_cons h, rowGo]

set_option maxRecDepth 100000 in
set_option maxHeartbeats 1600000 in
theorem row_any (v : Value) (bs : List Int) (last : Nat) (top : Int) (w : World) (h : Sl w v bs) (ho : Oct bs) (hl : bs.length ≤ 1000000000) (hl1 : 1 ≤ last) (hl2 : last ≤ 10) (ht0 : 0 ≤ top) (ht : top < 128) (ht1 : last = 10 → top ≤ 1) :
    Calls Try.prog 84 #[v, .int .i64 last, .int .u8 top] w fun x w' => w' = w ∧ x = .returned (tup3 (rowGo last top bs 0 0)) := by
  obtain ⟨ao, cap, rfl, hc, hx⟩ := h
  have Hx : Hid _ := hx
  clear hx
  go_enter Try.func84, Try.ntmps84
  go_wp2
  go_loop [9, 10, 11, 14] (fun u _ _ i => ∃ (j : Nat) (y : Int), j ≤ bs.length ∧ j < last ∧ i = .int .i64 j ∧ u = .int .u64 y ∧ 0 ≤ y ∧ Hid (y < 128 ^ j) ∧ Hid (rowGo last top (bs.drop j) j y = rowGo last top bs 0 0)) (fun _ _ _ i => bs.length - (intOf i).toNat)
  case atStart => exact ⟨0, 0, Nat.zero_le _, by omega, rfl, rfl, by omega, (show (0 : Int) < 128 ^ 0 by decide), (show _ = _ from rfl)⟩
  case round =>
    obtain ⟨j, y, hj, hjl, rfl, rfl, hy0, hy1, hgo⟩ := hrel
    by_cases hlt : j < bs.length
    · obtain ⟨b, off, rfl, hcell⟩ := Hx.out (by intro e; subst e; simp at hlt)
      have hcj := hcell j bs[j] (by simp [hlt])
      have hb := ho bs[j] (List.getElem_mem hlt)
      have hat := rowGo_at last top bs j y hlt
      rw [hgo.out] at hat
      obtain ⟨c, hc'⟩ : ∃ c, c = bs[j] := ⟨_, rfl⟩
      rw [← hc'] at hcj hb hat
      obtain ⟨hb0, hb1⟩ := hb
      have Ha : Hid _ := hat
      have a1 := and127_u8 c hb0 hb1
      have a2 := and128_u8 c hb0 hb1
      have hw8 : IntKind.i64.wrap (7 * (j : Int)) = 7 * (j : Int) := by rw [IntKind.wrap_i64]; omega
      clear hc' hcell hat hgo
      by_cases hr : j + 1 = last ∧ top < c
      · have hres : rowGo last top bs 0 0 = (0, 0, 15) := by rw [Ha.out, if_pos hr]
        have Hres : Hid _ := hres
        obtain ⟨hr1, hr2⟩ := hr
        have hr3 : (j : Int) + 1 = (last : Int) := by omega
        clear hres
        go_wp2
        go_ret3
        exact ⟨rfl, by rw [Hres.out]; rfl⟩
      · by_cases hc8 : 128 ≤ c
        · have hst : Hid _ := seven_step y (c % 128) j (by omega) hy0 hy1 (by omega) (by omega) (by omega)
          have hbd : Hid _ := seven_bd y (c % 128) j hy0 hy1 (by omega) (by omega)
          have hres : rowGo last top bs 0 0 = rowGo last top (bs.drop (j + 1)) (j + 1) (y + c % 128 * 128 ^ j) := by rw [Ha.out, if_neg hr, if_pos hc8]
          have Hres : Hid _ := hres
          have a3 : c / 128 * 128 = 128 := by omega
          clear hres
          go_wp2
          go_round
          case rel => exact ⟨j + 1, y + c % 128 * 128 ^ j, by omega, by omega, by go_num, by rw [hst.out], hbd.out.1, hbd.out.2, (show _ = _ from Hres.out.symm)⟩
          case measure => simp [intOf]; omega
        · have hst : Hid _ := seven_step y (c % 128) j (by omega) hy0 hy1 (by omega) (by omega) (by omega)
          have a3 : c / 128 * 128 = 0 := by omega
          by_cases hz : 0 < j ∧ c = 0
          · have hres : rowGo last top bs 0 0 = (0, 0, 3) := by rw [Ha.out, if_neg hr, if_neg hc8, if_pos hz]
            have Hres : Hid _ := hres
            obtain ⟨hz1, hz2⟩ := hz
            clear hres
            by_cases hr1 : (j : Int) + 1 = (last : Int)
            · go_wp2
              go_ret3
              exact ⟨rfl, by rw [Hres.out]; rfl⟩
            · go_wp2
              go_ret3
              exact ⟨rfl, by rw [Hres.out]; rfl⟩
          · have hres : rowGo last top bs 0 0 = (y + c % 128 * 128 ^ j, (j : Int) + 1, 0) := by rw [Ha.out, if_neg hr, if_neg hc8, if_neg hz]
            have Hres : Hid _ := hres
            clear hres
            by_cases hr1 : (j : Int) + 1 = (last : Int)
            · by_cases hj0 : 0 < j
              · have hz2 : ¬ c = 0 := by omega
                go_wp2
                go_ret3
                exact ⟨rfl, by rw [Hres.out, ← hst.out, hr1]; rfl⟩
              · go_wp2
                go_ret3
                exact ⟨rfl, by rw [Hres.out, ← hst.out, hr1]; rfl⟩
            · by_cases hj0 : 0 < j
              · have hz2 : ¬ c = 0 := by omega
                go_wp2
                go_ret3
                exact ⟨rfl, by rw [Hres.out, ← hst.out]; rfl⟩
              · go_wp2
                go_ret3
                exact ⟨rfl, by rw [Hres.out, ← hst.out]; rfl⟩
    · have hres : rowGo last top bs 0 0 = (0, 0, 2) := by
        rw [← hgo.out, List.drop_eq_nil_of_le (by omega)]; rfl
      have Hres : Hid _ := hres
      clear hres hgo
      go_wp2
      go_ret3
      exact ⟨rfl, by rw [Hres.out]; rfl⟩

end Go.Proofs.Ytdnlfacfleemeaa
