import Derived.Test.YtdnlfacfleemeaaK08
import Derived.Test.YtdnlfacfleemeaaK05
import Derived.Test.YtdnlfacfleemeaaK07
import Derived.Lib.ConvBytes
namespace Go.Proofs.Ytdnlfacfleemeaa
open Go.RowKit Go.Lib

theorem fk_other (f g : Fk) (v : Int) (x : Ins) (h : g.pos ≠ f.pos) : g.get (f.set v x) = g.get x := by
  cases f <;> cases g <;> first | rfl | exact absurd rfl h

theorem fits_list (ar bh : Int) : ∀ (fs : List Fk) (x y : Ins), (fs.map Fk.pos).Nodup → chkF ar bh fs x = some y → ∀ f ∈ fs, f.fits (f.get x) ar bh = true := by
  intro fs
  induction fs with
  | nil => intro x y _ _ f hf; simp at hf
  | cons g fs ih =>
    intro x y hn h f hf
    rw [List.map_cons, List.nodup_cons] at hn
    rw [chkF] at h
    by_cases hg : g.fits (g.get x) ar bh = true
    · rw [if_pos hg] at h
      rcases List.mem_cons.1 hf with rfl | hm
      · exact hg
      · have h1 := ih _ _ hn.2 h f hm
        rw [fk_other g f 0 x (fun e => hn.1 (e ▸ List.mem_map.2 ⟨f, hm, rfl⟩))] at h1
        exact h1
    · rw [if_neg hg] at h
      cases h

theorem opF_nodup (i : Nat) : ((opF i).map Fk.pos).Nodup := by
  unfold opF
  split <;> decide

theorem fits_all (i : Nat) (x y : Ins) (ar bh : Int) (h : chkF ar bh (opF i) x = some y) : ∀ f ∈ opF i, f.fits (f.get x) ar bh = true := fits_list ar bh _ x y (opF_nodup i) h

theorem fit_bound (f : Fk) (v ar bh : Int) (h : f.fits v ar bh = true) (h0 : 0 ≤ ar) (h1 : ar ≤ 16) (h2 : bh ≤ 200) : 0 ≤ v ∧ v < 256 := by
  cases f <;> simp [Fk.fits, withinB] at h <;> try omega
  have : wrap64 (ar - 1) = ar - 1 := by unfold wrap64; omega
  omega

theorem good_ins (x : Ins) (ar bh : Int) (h : insErr x ar bh = 0) (h0 : 0 ≤ ar) (h1 : ar ≤ 16) (h2 : bh ≤ 200) :
    (1 ≤ x.op ∧ x.op ≤ 16) ∧ (∀ f ∈ opF (opN x.op), 0 ≤ f.get x ∧ f.get x < 256) ∧ chk x.k x.i x.t = 0 := by
  unfold insErr at h
  by_cases ho : 1 ≤ x.op ∧ x.op ≤ 16
  · rw [if_pos ho] at h
    refine ⟨ho, ?_⟩
    unfold opErr at h
    cases hc : chkF ar bh (opF (opN x.op)) x with
    | none => rw [hc] at h; simp at h
    | some y =>
      rw [hc] at h
      have hf := fits_all _ _ _ _ _ hc
      refine ⟨fun f hm => fit_bound f _ ar bh (hf f hm) h0 h1 h2, ?_⟩
      simp only at h
      split at h
      · exact h
      · omega
  · rw [if_neg ho] at h
    omega

theorem code_good (ar : Int) (len : Nat) : ∀ (xs : List Ins) (i : Nat), (codeChk ar len i xs).2 = 0 → ∀ j x, xs[j]? = some x → insErr x ar ((len : Int) - 1 - (i + j : Nat)) = 0 := by
  intro xs
  induction xs with
  | nil => intro i _ j x hx; simp at hx
  | cons y xs ih =>
    intro i h j x hx
    rw [codeChk] at h
    by_cases he : insErr y ar ((len : Int) - 1 - i) = 0
    · rw [if_pos he] at h
      cases j with
      | zero => simp at hx; subst hx; simpa using he
      | succ j =>
        have := ih (i + 1) h j x (by simpa using hx)
        rw [show i + (j + 1) = i + 1 + j by omega]
        exact this
    · rw [if_neg he] at h
      exact absurd h he

/-- An instruction as bytes, a procedure as bytes. -/
def insBx (x : Ins) : List Int := insB (opF (opN x.op)) (opN x.op == 1) x
def procB (nm : ByteArray) (ar : Int) (xs : List Ins) : List Int := rowF 10 (strBs nm).length ++ strBs nm ++ rowF 10 ar ++ rowF 10 (xs.length : Int) ++ xs.flatMap insBx

/-- What Check takes, in plain words. -/
structure Gd (nm : ByteArray) (ar : Int) (xs : List Ins) : Prop where
  nm : nameB nm = true
  a0 : 0 ≤ ar
  a1 : ar ≤ 16
  len : xs.length ≤ 64
  ins : ∀ (j : Nat) (x : Ins), xs[j]? = some x → insErr x ar ((xs.length : Int) - 1 - j) = 0

theorem good_of {nm : ByteArray} {ar : Int} {xs : List Ins} (h : (procChk nm ar xs).2 = 0) : Gd nm ar xs := by
  unfold procChk at h
  split at h
  · split at h
    · split at h
      · rename_i h1 h2 h3
        simp [withinB] at h2
        refine ⟨h1, h2.1, h2.2, h3, fun j x hx => ?_⟩
        have := code_good ar xs.length xs 0 h j x hx
        simpa using this
      · simp at h
    · simp at h
  · simp at h

theorem Gd.size {nm : ByteArray} {ar : Int} {xs : List Ins} (h : Gd nm ar xs) : nm.size ≤ 32 := by
  have := h.nm
  simp only [nameB, decide_eq_true_eq] at this
  exact this.2.1

theorem Gd.at {nm : ByteArray} {ar : Int} {xs : List Ins} (h : Gd nm ar xs) {j : Nat} {x : Ins} (hx : xs[j]? = some x) :
    (1 ≤ x.op ∧ x.op ≤ 16) ∧ (∀ f ∈ opF (opN x.op), 0 ≤ f.get x ∧ f.get x < 256) ∧ chk x.k x.i x.t = 0 :=
  good_ins x ar _ (h.ins j x hx) h.a0 h.a1 (by have := h.len; omega)

/-- Integers within 64 binary digits. -/
def InsOk (x : Ins) : Prop := -9223372036854775808 ≤ x.i ∧ x.i < 9223372036854775808

theorem insBx_len (x : Ins) (h : chk x.k x.i x.t = 0) (hi : InsOk x) : (insBx x).length ≤ 1002000 := by
  unfold insBx insB
  have h1 := flds_len x (opF (opN x.op))
  have h2 := opF_len (opN x.op)
  have h3 := (encB_len x.k x.i x.t h hi.1 hi.2).1
  have h4 := rowF_le 10 ((encB x.k x.i x.t).length : Nat)
  simp only [List.length_append, List.length_singleton]
  split
  · simp only [valB, List.length_append]; omega
  · simp only [List.length_nil]; omega

theorem code_len : ∀ (xs : List Ins), (∀ x ∈ xs, (insBx x).length ≤ 1002000) → (xs.flatMap insBx).length ≤ 1002000 * xs.length := by
  intro xs
  induction xs with
  | nil => intro _; simp
  | cons x xs ih =>
    intro h
    rw [List.flatMap_cons, List.length_append, List.length_cons]
    have := h x (by simp)
    have := ih (fun y hy => h y (by simp [hy]))
    omega

/-- While a procedure is laid. -/
structure Est (w W : World) (p : Nat) (bs : List Int) (nm : ByteArray) (ar : Int) (S : Value) : Prop where
  r0 : W.heap[w.heap.size]? = some (po nm ar S)
  wr : ∃ g, Wr w.heap.size W p g bs 0
  hb : Below w.heap.size w W
  hp : w.heap.size < p

theorem Est.below {w W W' : World} {p : Nat} {bs : List Int} {nm : ByteArray} {ar : Int} {S : Value} (h : Est w W p bs nm ar S) (hb : Below W.heap.size W W') : Est w W' p bs nm ar S := by
  obtain ⟨g, hg⟩ := h.wr
  exact ⟨blk_of hb h.r0 (lt_of h.r0), ⟨g, hg.kept (Kept.ofBelow hb) (fun h => h) (fun _ _ h => h)⟩, below_on h.hb hb, h.hp⟩

theorem Est.step {w W W' : World} {p : Nat} {bs bs2 : List Int} {nm : ByteArray} {ar : Int} {S : Value} {g : Option Nat} (h : Est w W p bs nm ar S) (hg : Wr w.heap.size W p g bs 0) (hs : WrStep w.heap.size p g W W' bs2 0) : Est w W' p bs2 nm ar S := by
  obtain ⟨g', h1, h2, hk⟩ := hs
  refine ⟨(hk.block _ (lt_of h.r0) (hg.other h.r0 (by decide) (by decide))).trans h.r0, ⟨g', h1⟩, h.hb.trans (hk.below h.hb.size ?_), h.hp⟩
  rintro k hk2 (rfl | e)
  · have := h.hp; omega
  · have := (hg.glt k e).1; omega

theorem Tbl.step {W W' : World} {B p G : Nat} {bs bs2 : List Int} {g : Option Nat} (h : Tbl W G) (hg : Wr B W p g bs 0) (hs : WrStep B p g W W' bs2 0) : Tbl W' G := by
  obtain ⟨g', h1, h2, hk⟩ := hs
  exact ⟨(hk.block _ (lt_of h.tb) (hg.other h.tb (by decide) (by decide))).trans h.tb, fun i hi1 hi2 => (hk.block _ (lt_of (h.fb i hi1 hi2)) (hg.other (h.fb i hi1 hi2) (by decide) (by decide))).trans (h.fb i hi1 hi2)⟩

theorem est_new {w w1 : World} {nm : ByteArray} {ar : Int} {S : Value} (hb : Below (w.alloc (po nm ar S)).heap.size (w.alloc (po nm ar S)) w1) : Est w (w1.alloc (.cells #[.slice none 0 0, .int .i64 0] 57)) w1.heap.size [] nm ar S := by
  have h0 := blk_of hb (heap_alloc_new w (po nm ar S)) (by simp)
  have hb' : Below w.heap.size w w1 := (below1 w _).trans (hb.mono (below1 w (po nm ar S)).size)
  exact ⟨(Below.heap_alloc _ _ _ (lt_of h0)).trans h0, ⟨none, wr_new w1 _⟩, hb'.alloc hb'.size _, lt_of h0⟩

theorem take_flat (xs : List Ins) (n : Nat) (x : Ins) (h : xs[n]? = some x) : (xs.take (n + 1)).flatMap insBx = (xs.take n).flatMap insBx ++ insBx x := by
  rw [List.take_add_one, h]
  simp [List.flatMap_append]

/-- What Encode answers, if all is well. -/
def PEnc (nm : ByteArray) (ar : Int) (xs : List Ins) (w : World) (e : Ending) (w' : World) : Prop :=
  ((procChk nm ar xs).2 ≠ 0 ∧ e = .returned (.tuple #[.slice none 0 0, .int .i64 (procChk nm ar xs).2]) ∧ Below w.heap.size w w') ∨
  ((procChk nm ar xs).2 = 0 ∧ ∃ g, e = .returned (.tuple #[.slice (some ⟨g, 0, none⟩) (procB nm ar xs).length (procB nm ar xs).length, .int .i64 0]) ∧ Own w' g (procB nm ar xs) ∧ w.heap.size ≤ g ∧ Below w.heap.size w w')

set_option maxRecDepth 100000 in
set_option maxHeartbeats 4000000 in
theorem pencode_no (nm : ByteArray) (ar : Int) (S : Value) (xs : List Ins) (w : World) (h : CodeAt w S xs) (hl : xs.length ≤ 1000000000) (hE : (procChk nm ar xs).2 ≠ 0) :
    Calls Try.prog 29 #[.agg #[.string nm, .int .i64 ar, S]] w (PEnc nm ar xs w) := by
  obtain ⟨E1, E2, hR⟩ : ∃ R1 R2, procChk nm ar xs = (R1, R2) := ⟨_, _, rfl⟩
  have hc := pcheck_any nm ar S xs
  rw [hR] at hc hE
  unfold PEnc
  rw [hR]
  dsimp only at hc hE ⊢
  have HC := hid hc
  have HH := hid h
  have HE := hid hE
  obtain ⟨ao, cap, rfl, -, -⟩ := h
  have hB0 := hid (below1 w (po nm ar (.slice ao xs.length cap)))
  have he2 : (E2 == 0) = false := by simpa using hE
  clear hc hR hE
  go_enter Try.func29, Try.ntmps29
  go_wp2_with (first
    | (go_at_call 40
       refine (HC.out _ (HH.out.below (below1 w _)) hl).mono ?_
       rintro e w1 ⟨rfl, hb1⟩
       have H1 := hid (below_on hB0.out hb1)
       clear hb1))
  go_ret2
  exact .inl ⟨HE.out, rfl, H1.out⟩

set_option maxRecDepth 100000 in
set_option maxHeartbeats 4000000 in
theorem pencode_ok (nm : ByteArray) (ar : Int) (S : Value) (xs : List Ins) (w : World) (h : CodeAt w S xs) (hi : ∀ x ∈ xs, InsOk x) (hE : (procChk nm ar xs).2 = 0) :
    Calls Try.prog 29 #[.agg #[.string nm, .int .i64 ar, S]] w (PEnc nm ar xs w) := by
  have hg := good_of hE
  obtain ⟨E1, E2, hR⟩ : ∃ R1 R2, procChk nm ar xs = (R1, R2) := ⟨_, _, rfl⟩
  have hc := pcheck_any nm ar S xs
  rw [hR] at hc hE
  unfold PEnc
  rw [hR]
  dsimp only at hc hE ⊢
  subst hE
  have HC := hid hc
  have HH := hid h
  have HG := hid hg
  have HI := hid hi
  have hsz := hg.size
  have hlen := hg.len
  have ha0 := hg.a0
  have ha1 := hg.a1
  obtain ⟨ao, cap, rfl, hcap, hcells⟩ := h
  have HX := hid hcells
  have hB0 := hid (below1 w (po nm ar (.slice ao xs.length cap)))
  have ft : ∀ bs : List Int, wtextZ (bs, 0) (strBs nm) = (bs ++ rowF 10 (strBs nm).length ++ strBs nm, 0) := fun bs => by simp [wtextZ]
  have FT := hid ft
  have fnn : ∀ (bs : List Int) (v : Int), 0 ≤ v → wnumZ (bs, 0) v = (bs ++ rowF 10 v, 0) := fun bs v hv => by unfold wnumZ; rw [if_pos rfl, if_neg (by omega)]
  have FN := hid fnn
  have l1 : ([] ++ rowF 10 (strBs nm).length ++ strBs nm : List Int).length ≤ 1000 := by
    have := rowF_le 10 ((strBs nm).length : Nat); have := strBs_len nm
    simp only [List.length_append, List.length_nil]; omega
  have L1 := hid l1
  have l2 : ([] ++ rowF 10 (strBs nm).length ++ strBs nm ++ rowF 10 ar : List Int).length ≤ 2000 := by
    have := rowF_le 10 ar
    rw [List.length_append]; omega
  have L2 := hid l2
  have l3 : ([] ++ rowF 10 (strBs nm).length ++ strBs nm ++ rowF 10 ar ++ rowF 10 (xs.length : Int) : List Int).length ≤ 3000 := by
    have := rowF_le 10 (xs.length : Int)
    rw [List.length_append]; omega
  have L3 := hid l3
  clear hc hR hg hi hcells ft fnn l1 l2 l3
  go_enter Try.func29, Try.ntmps29
  go_wp2_with (first
    | (go_at_call 40
       refine (HC.out _ (HH.out.below (below1 w _)) (by omega)).mono ?_
       rintro e w1 ⟨rfl, hb1⟩
       have H1 := hid (est_new hb1)
       obtain ⟨p0, p1, p2, -⟩ := vfacts (blk_of hb1 (heap_alloc_new w _) (by simp))
       have k0 : w.heap.size < w1.heap.size := H1.out.hp
       clear hb1)
    | (go_at_call 30
       obtain ⟨g1, hg1⟩ := H1.out.wr
       refine (wtext_any w.heap.size w1.heap.size g1 [] 0 _ nm hg1 H1.out.hb.size (by omega) (by simp)).mono ?_
       rintro e w2 ⟨rfl, hs2⟩
       rw [FT.out] at hs2
       have H2 := hid (H1.out.step hg1 hs2)
       obtain ⟨p0, p1, p2, -⟩ := vfacts H2.out.r0
       clear hs2 hg1 g1)
    | (go_at_call 16
       first
       | (with_reducible show Calls _ _ _ w2 _
          obtain ⟨g1, hg1⟩ := H2.out.wr
          refine (wnum_any w.heap.size w1.heap.size g1 _ 0 _ ar hg1 H2.out.hb.size (by omega) (by have := L1.out; omega)).mono ?_
          rintro e w3 ⟨rfl, hs3⟩
          rw [FN.out _ _ ha0] at hs3
          have H3 := hid (H2.out.step hg1 hs3)
          obtain ⟨p0, p1, p2, -⟩ := vfacts H3.out.r0
          clear hs3 hg1 g1)
       | (obtain ⟨g1, hg1⟩ := H3.out.wr
          refine (wnum_any w.heap.size w1.heap.size g1 _ 0 _ (xs.length : Int) hg1 H3.out.hb.size (by omega) (by have := L2.out; omega)).mono ?_
          rintro e w4 ⟨rfl, hs4⟩
          rw [FN.out _ _ (by omega)] at hs4
          have H4 := hid (H3.out.step hg1 hs4)
          clear hs4 hg1 g1))
    | (go_at_call 41
       refine (operations_any _).mono ?_
       rintro e w5 ⟨G, rfl, ht, hG, hb⟩
       have H5 := hid (And.intro (H4.out.below hb) ht)
       obtain ⟨p0, p1, p2, -⟩ := vfacts H5.out.1.r0
       clear hb ht))
  obtain ⟨hd, hhd⟩ : ∃ hd : List Int, hd = [] ++ rowF 10 (strBs nm).length ++ strBs nm ++ rowF 10 ar ++ rowF 10 (xs.length : Int) := ⟨_, rfl⟩
  have l3 := L3.out
  rw [← hhd] at l3 H5
  have HHD := hid hhd
  clear hhd H1 H2 H3 H4 L1 L2 L3 HC
  go_loopw [39] (fun ix wr => ∃ (n : Nat), n ≤ xs.length ∧ ix = .int .i64 n ∧ Hid (Est w wr w1.heap.size (hd ++ (xs.take n).flatMap insBx) nm ar (.slice ao xs.length cap)) ∧ Hid (Tbl wr G)) (fun ix _ => xs.length - (intOf ix).toNat)
  case atStart => exact ⟨0, Nat.zero_le _, rfl, hid (by simpa using H5.out.1), hid H5.out.2⟩
  case round =>
    clear H5 p0 p1 p2
    obtain ⟨n, hn, rfl, hP, hT⟩ := hrel
    have hlf := code_len (xs.take n) (fun x hx => by
      have hx2 := List.mem_of_mem_take hx
      obtain ⟨j, hj⟩ := List.getElem?_of_mem hx2
      exact insBx_len x (HG.out.at hj).2.2 (HI.out x hx2))
    have hlf2 : (hd ++ (xs.take n).flatMap insBx).length ≤ 100000000 := by
      rw [List.length_append]
      rw [List.length_take] at hlf
      have : min n xs.length ≤ 64 := by omega
      have : 1002000 * min n xs.length ≤ 1002000 * 64 := Nat.mul_le_mul_left _ this
      omega
    have HL := hid hlf2
    clear hlf hlf2
    by_cases hlt : n < xs.length
    · obtain ⟨x, hx⟩ : ∃ x, xs[n]? = some x := ⟨_, List.getElem?_eq_getElem hlt⟩
      obtain ⟨b, off, rfl, hat⟩ := HX.out (by intro e; rw [e] at hlt; simp at hlt)
      have hat := hat n x hx
      obtain ⟨c0, c1, c2, c3, c4, c5, c6, c7⟩ := hat.same (hP.out.hb.block b hat.lt)
      have hlt' : (n : Int) < (xs.length : Int) := by omega
      obtain ⟨ao2, n2, cc2, hsS⟩ := opS_form G (opN x.op)
      obtain ⟨p0, p1, p2, -⟩ := vfacts hP.out.r0
      have m1 := lt_of hP.out.r0
      have m2 := World.new_ne wr ⟨b, off + n * 8, none⟩ c0
      have HS := hid hsS
      have HQ := hid (HG.out.at hx)
      have HIx := hid (HI.out x (List.mem_of_getElem? hx))
      have HTF := hid (take_flat xs n x hx)
      clear hx hat hsS
      go_wp2_with (first
        | (go_at_call 42
           refine (find_any G x.op _ (hT.out.below (below1 wr _))).mono ?_
           rintro e w2' ⟨rfl, hb2⟩
           rw [findV, HS.out, decide_eq_true HQ.out.1]
           have H2' := hid (And.intro (hP.out.below ((below1 wr _).trans (hb2.mono (by simp)))) (And.intro (hT.out.below ((below1 wr _).trans (hb2.mono (by simp)))) (blk_of hb2 (heap_alloc_new wr _) (by simp))))
           obtain ⟨p0, p1, p2, -⟩ := vfacts H2'.out.1.r0
           have k1 := lt_of H2'.out.1.r0
           have k2 := lt_of H2'.out.2.2
           clear hb2)
        | (go_at_call 43
           have H3' := hid (And.intro (H2'.out.1.below (below1 _ (.cells #[.slice ao2 n2 cc2, .bool (opN x.op == 1)] 97))) (H2'.out.2.1.below (below1 _ (.cells #[.slice ao2 n2 cc2, .bool (opN x.op == 1)] 97))))
           obtain ⟨g1, hg1⟩ := H3'.out.1.wr
           refine (lay_any w.heap.size w1.heap.size wr.heap.size g1 _ _ (opF (opN x.op)) (opN x.op == 1) x _ hg1 H3'.out.1.hb.size (blk_of (below1 _ _) H2'.out.2.2 k2) (HS.out ▸ H3'.out.2.fs (opN x.op)) (opF_len _) (by have := HQ.out.1; omega) HQ.out.2.1 (fun _ => HQ.out.2.2) HIx.out (by have := HL.out; omega)).mono ?_
           rintro e w4' ⟨rfl, hs4⟩
           have H4' := hid (And.intro (H3'.out.1.step hg1 hs4) (H3'.out.2.step hg1 hs4))
           clear hs4 hg1 g1))
      go_roundw
      case rel =>
        refine ⟨n + 1, by omega, by go_num, hid ?_, hid H4'.out.2⟩
        rw [HTF.out, ← List.append_assoc]
        exact H4'.out.1
      case measure => simp [intOf]; omega
    · have htk : xs.take n = xs := List.take_of_length_le (by omega)
      rw [htk] at hP HL
      have HP2 := hid (show hd ++ xs.flatMap insBx = procB nm ar xs by rw [HHD.out, procB, List.nil_append])
      rw [HP2.out] at hP HL
      go_wp2_with (first
        | (go_at_call 19
           obtain ⟨g1, hg1⟩ := hP.out.wr
           refine (wdata_any w.heap.size w1.heap.size g1 _ _ _ hg1 (by have := HL.out; omega)).mono ?_
           rintro e w5 ⟨rfl, ho5, hb5⟩
           have H6 := hid (And.intro ho5 (And.intro hP.out.hb.size (below_on hP.out.hb hb5)))
           clear ho5 hb5 hg1 g1))
      go_ret2
      exact .inr ⟨(by trivial), _, rfl, H6.out.1, H6.out.2.1, H6.out.2.2⟩

theorem pencode_any (nm : ByteArray) (ar : Int) (S : Value) (xs : List Ins) (w : World) (h : CodeAt w S xs) (hl : xs.length ≤ 1000000000) (hi : ∀ x ∈ xs, InsOk x) :
    Calls Try.prog 29 #[.agg #[.string nm, .int .i64 ar, S]] w (PEnc nm ar xs w) := by
  by_cases hE : (procChk nm ar xs).2 = 0
  · exact pencode_ok nm ar S xs w h hi hE
  · exact pencode_no nm ar S xs w h hl hE

end Go.Proofs.Ytdnlfacfleemeaa

namespace Go.Proofs.Ytdnlfacfleemeaa
open Go.RowKit

theorem drewN_drewN' (w : World) (n m : Nat) : (w.drewN n).drewN m = w.drewN (n + m) := by
  simp [World.drewN, Nat.add_assoc]

theorem take_eq_step (xs ys : List Int) (k : Nat) (ha : k < xs.length) (hb : k < ys.length) (h : xs.take k = ys.take k) : xs.take (k + 1) = ys.take (k + 1) ↔ xs[k] = ys[k] := by
  rw [List.take_succ_eq_append_getElem ha, List.take_succ_eq_append_getElem hb, h]
  constructor
  · intro h2
    have := List.append_cancel_left h2
    injection this
  · intro h2
    rw [h2]

/-- w' is w behind some draws. -/
def DN (w w' : World) : Prop := ∃ nq, w' = w.drewN nq
theorem DN.refl (w : World) : DN w w := ⟨0, rfl⟩
theorem DN.more {w w' : World} (h : DN w w') (n : Nat) : DN w (w'.drewN n) := by
  obtain ⟨k, rfl⟩ := h
  exact ⟨_, drewN_drewN' _ _ _⟩
theorem DN.cell {w w' : World} (h : DN w w') (a : Addr) : w'.cell? a = w.cell? a := by
  obtain ⟨k, rfl⟩ := h
  simp

set_option maxRecDepth 100000 in
set_option maxHeartbeats 800000 in
theorem bytes_any (a b : Value) (xs ys : List Int) (w : World) (ha : Sl w a xs) (hb : Sl w b ys) (hl : xs.length ≤ 1000000000) :
    Calls Try.prog 13 #[a, b] w fun x w' => DN w w' ∧ x = .returned (.bool (decide (xs = ys))) := by
  obtain ⟨r, hr⟩ : ∃ r, r = decide (xs = ys) := ⟨_, rfl⟩
  rw [← hr]
  have HR := hid hr
  clear hr
  obtain ⟨ao, acap, rfl, hac, hax⟩ := ha
  obtain ⟨bo, bcap, rfl, hbc, hbx⟩ := hb
  by_cases hlen : xs.length = ys.length
  · have hlen' : ((xs.length : Int) == (ys.length : Int)) = true := by simp [hlen]
    have Hl := hid hlen
    have HA := hid hax
    have HB := hid hbx
    have hbl : ys.length ≤ 1000000000 := by omega
    have hab : (xs.length : Int) ≤ (ys.length : Int) := by omega
    have hba : (ys.length : Int) ≤ (xs.length : Int) := by omega
    clear hlen hax hbx hlen'
    go_enter Try.func13, Try.ntmps13
    go_wp2
    go_loopw [5] (fun i wr => ∃ (k : Nat), k ≤ xs.length ∧ i = .int .i64 k ∧ DN w wr ∧ Hid (xs.take k = ys.take k)) (fun i _ => xs.length - (intOf i).toNat)
    case atStart => exact ⟨0, Nat.zero_le _, rfl, DN.refl w, hid (by simp)⟩
    case round =>
      obtain ⟨k, hk, rfl, hdn, hpre⟩ := hrel
      by_cases hlt : k < xs.length
      · obtain ⟨ab, aoff, rfl, haj⟩ := HA.out (by intro e; subst e; simp at hlt)
        obtain ⟨bb, boff, rfl, hbj⟩ := HB.out (fun e => by rw [e, List.length_nil] at hab; omega)
        have hlt2 : k < ys.length := by omega
        have ca := (hdn.cell _).trans (haj k xs[k] (by simp [hlt]))
        have cb := (hdn.cell _).trans (hbj k ys[k] (by simp [hlt2]))
        have hst := take_eq_step xs ys k hlt hlt2 hpre.out
        obtain ⟨x, hx⟩ : ∃ x, x = xs[k] := ⟨_, rfl⟩
        obtain ⟨y, hy⟩ : ∃ y, y = ys[k] := ⟨_, rfl⟩
        rw [← hx] at ca hst
        rw [← hy] at cb hst
        have hne2 : x ≠ y → xs ≠ ys := by
          intro h e
          apply h
          rw [hx, hy]
          subst e
          rfl
        have HS : x = y → Hid (xs.take (k + 1) = ys.take (k + 1)) := fun h => hid (hst.2 h)
        have HN := hid hne2
        have i1 : (0 : Int) ≤ (k : Int) := by omega
        have i2 : (k : Int) < (xs.length : Int) := by omega
        have i3 : (k : Int) < (ys.length : Int) := by omega
        clear hx hy hst hne2 haj hbj
        by_cases hxy : x = y
        · have HT := HS hxy
          subst hxy
          clear HS
          go_wp2
          go_quiet (fail)
          go_wp2
          go_roundw
          case rel => first | exact ⟨k + 1, by omega, by go_num, hdn.more _, HT⟩ | ((repeat apply Exists.intro); exact ⟨⟨k + 1, by omega, by go_num, hdn.more _, HT⟩, rfl⟩)
          case measure => simp [intOf]; omega
        · have hxy2 : (x == y) = false := by simpa using hxy
          clear HS
          have Hr := hid (show decide (xs = ys) = false by simpa using HN.out hxy)
          go_wp2
          go_quiet (fail)
          go_wp2
          go_ret
          exact ⟨hdn.more _, by rw [HR.out, Hr.out]; rfl⟩
      · have Hr : Hid (decide (xs = ys) = true) := by
          have := hpre.out
          rw [List.take_of_length_le (by omega), List.take_of_length_le (by omega)] at this
          exact hid (by simpa using this)
        go_wp2
        go_ret
        exact ⟨hdn, by rw [HR.out, Hr.out]; rfl⟩
  · have Hr : Hid (decide (xs = ys) = false) := hid (by
      simp
      intro e; subst e; exact hlen rfl)
    have hne : ((xs.length : Int) == (ys.length : Int)) = false := by simp; omega
    clear hlen hax hbx
    go_enter Try.func13, Try.ntmps13
    go_wp2
    go_ret
    exact ⟨DN.refl _, by rw [HR.out, Hr.out]; rfl⟩

end Go.Proofs.Ytdnlfacfleemeaa

namespace Go.Proofs.Ytdnlfacfleemeaa
open Go.RowKit Go.Lib

/-- A refusal. -/
abbrev refu (E : Int) : Ending := .panicked [{ v := .iface 142 (.agg #[.int .i64 E]), recovered := false }]

set_option maxRecDepth 100000 in
theorem insist_ok (w : World) : Calls Try.prog 81 #[.int .i64 0] w fun x w' => x = .returned (.tuple #[]) ∧ w' = w := by
  go_enter Try.func81, Try.ntmps81
  go_wp2
  go_end0
  exact ⟨rfl, rfl⟩

set_option maxRecDepth 100000 in
theorem insist_no (E : Int) (hE : E ≠ 0) (w : World) : Calls Try.prog 81 #[.int .i64 E] w fun x w' => x = refu E ∧ w' = w := by
  have he : (E == 0) = false := by simpa using hE
  go_enter Try.func81, Try.ntmps81
  go_wp2
  exact ⟨rfl, rfl, rfl⟩

set_option maxRecDepth 100000 in
theorem taken_ok (p : Nat) (g : Option Nat) (bs : List Int) (at' : Nat) (w : World) (h : Rd w p g bs at' 0) : Calls Try.prog 85 #[.pointer (some ⟨p, 0, none⟩)] w fun x w' => x = .returned (.tuple #[]) ∧ DN w w' := by
  have HR := hid (rerr_any p g bs at' 0 w h)
  clear h
  go_enter Try.func85, Try.ntmps85
  go_wp2_with (first
    | (go_at_call 52; refine HR.out.mono ?_; rintro e w1 ⟨⟨nq, e1⟩, rfl⟩; dsimp only; rw [e1]; clear e1 w1)
    | (go_at_call 81; refine (insist_ok _).mono ?_; rintro e w2 ⟨rfl, e2⟩; rw [e2]; clear e2 w2))
  go_end0
  exact ⟨rfl, nq, rfl⟩

set_option maxRecDepth 100000 in
theorem taken_no (p : Nat) (g : Option Nat) (bs : List Int) (at' : Nat) (E : Int) (hE : E ≠ 0) (w : World) (h : Rd w p g bs at' E) : Calls Try.prog 85 #[.pointer (some ⟨p, 0, none⟩)] w fun x w' => x = refu E ∧ DN w w' := by
  have HR := hid (rerr_any p g bs at' E w h)
  clear h
  go_enter Try.func85, Try.ntmps85
  go_wp2_with (first
    | (go_at_call 52; refine HR.out.mono ?_; rintro e w1 ⟨⟨nq, e1⟩, rfl⟩; dsimp only; rw [e1]; clear e1 w1)
    | (go_at_call 81; refine (insist_no E hE _).mono ?_; rintro e w2 ⟨rfl, e2⟩; rw [e2]; clear e2 w2))
  exact ⟨rfl, rfl, nq, rfl⟩

set_option maxRecDepth 100000 in
theorem takeByte_any (p : Nat) (g : Option Nat) (bs : List Int) (at' : Nat) (e : Int) (w : World) (h : Rd w p g bs at' e) :
    Calls Try.prog 77 #[.pointer (some ⟨p, 0, none⟩)] w fun x w' => RdStep p g w w' bs (takeZ 0 1 bs at' e).2.1 (takeZ 0 1 bs at' e).2.2 ∧ x = .returned (.int .i64 (takeZ 0 1 bs at' e).1.1) := by
  have hb := takeZ_bd 0 1 bs at' e h.oct
  have HR := hid (rbyte_any p g bs at' e w h)
  obtain ⟨v, hv⟩ : ∃ v, v = (takeZ 0 1 bs at' e).1.1 := ⟨_, rfl⟩
  rw [← hv] at HR hb ⊢
  have hv0 : 0 ≤ v := hb.1
  have hv1 : v < 256 := hb.2.2.2 rfl rfl
  clear h hv hb
  go_enter Try.func77, Try.ntmps77
  go_wp2_with (first
    | (go_at_call 69; refine HR.out.mono ?_; rintro e w1 ⟨h1, rfl⟩; have H1 := hid h1; clear h1))
  go_ret
  exact ⟨H1.out, rfl⟩

/-- A text as bytes: a new row. -/
theorem conv_bytes (w : World) (s : ByteArray) : ∃ v W, (convert 9 34 (.string s)).run Try.prog w = .ok v W ∧ Sl W v (strBs s) ∧ Below w.heap.size w W := by
  refine ⟨_, _, Go.Lib.run_convert_string_bytes w 9 34 5 s Try.underlying9 Try.underlying34 Try.underlying5, ?_, ?_⟩
  · refine ⟨_, _, by rw [strBs_len], ?_, fun _ => ⟨_, _, rfl, ?_⟩⟩
    · rw [strBs_len]
      exact grownCap_ge w s.size 0 5
    · intro j x hx
      have hj : j < s.size := by
        have := (List.getElem?_eq_some_iff.1 hx).1
        rwa [strBs_len] at this
      rw [Nat.zero_add, Go.Lib.bytesWorld_cell w 5 s j hj]
      rw [strBs_at s j hj] at hx
      injection hx with hx
      rw [← hx]
      have hj2 : j < s.data.toList.length := by rw [Array.length_toList]; exact hj
      have e : s.data.toList.getD j 0 = s[j] := by
        rw [List.getD_eq_getElem?_getD, List.getElem?_eq_getElem hj2, Option.getD_some, Array.getElem_toList]
        rfl
      rw [e]
  · have hz := Go.Lib.bytesWorld_size w 5 s
    have hf : ∀ (w : World) (a : Addr) (n : Nat), (w.freeze a n).os = w.os ∧ (w.freeze a n).tape = w.tape ∧ (w.freeze a n).output = w.output := by
      intro w a n
      unfold World.freeze
      split <;> exact ⟨rfl, rfl, rfl⟩
    have := hf (w.drew.alloc (.cells (Go.Lib.bytesCells w 5 s) 5)) ⟨w.heap.size, (Go.Lib.bytesCells w 5 s).size, none⟩ 1
    exact ⟨this.1, this.2.1, this.2.2, by omega, fun k hk => Go.Lib.bytesWorld_at_old w 5 s k hk⟩

/-- Readings. -/
def tkf (f : Fk) (bs : List Int) (at' : Nat) : (Int × List Int) × Nat × Int :=
  match f with
  | .a => takeZ 0 1 bs at' 0
  | .b => takeZ 0 1 bs at' 0
  | .c => takeZ 0 1 bs at' 0
  | _ => takeZ 1 0 bs at' 0

theorem takF_any (f : Fk) (p : Nat) (g : Option Nat) (bs : List Int) (at' : Nat) (w : World) (h : Rd w p g bs at' 0) :
    Calls Try.prog f.tak #[.pointer (some ⟨p, 0, none⟩)] w fun x w' => RdStep p g w w' bs (tkf f bs at').2.1 (tkf f bs at').2.2 ∧ x = .returned (.int .i64 (tkf f bs at').1.1) := by
  cases f
  · exact takeByte_any p g bs at' 0 w h
  · exact takeByte_any p g bs at' 0 w h
  · exact takeByte_any p g bs at' 0 w h
  · exact rnum_any p g bs at' 0 w h
  · exact rnum_any p g bs at' 0 w h
  · exact rnum_any p g bs at' 0 w h
  · exact rnum_any p g bs at' 0 w h

theorem Rd.below {w w' : World} {p : Nat} {g : Option Nat} {bs : List Int} {at' : Nat} {e : Int} (h : Rd w p g bs at' e) (hb : Below w.heap.size w w') : Rd w' p g bs at' e :=
  h.kept (S := fun _ => False) (Kept.ofBelow hb) (fun h => h) (fun _ _ h => h)

theorem takeZ_oct3 (n : Int) (bs : List Int) (at' : Nat) (ho : Oct bs) : Oct (takeZ 3 n bs at' 0).1.2 ∧ (takeZ 3 n bs at' 0).1.2.length ≤ bs.length := by
  unfold takeZ
  rw [if_pos rfl]
  split
  · rw [if_pos rfl]
    split
    · exact ⟨fun x hx => (by simp at hx), Nat.zero_le _⟩
    · split
      · exact ⟨fun x hx => (by simp at hx), Nat.zero_le _⟩
      · refine ⟨fun x hx => ho x (List.mem_of_mem_drop (List.mem_of_mem_drop (List.mem_of_mem_take hx))), ?_⟩
        simp only [List.length_take, List.length_drop]
        omega
  · exact ⟨fun x hx => (by simp at hx), Nat.zero_le _⟩

/-- A value read. -/
def tkVal (bs : List Int) (most : Int) (at' : Nat) : Except Int ((Int × Int × List Int) × Nat) :=
  if (takeZ 3 most bs at' 0).2.2 = 0 then
    if (decZ (takeZ 3 most bs at' 0).1.2).2 = 0 then .ok ((decZ (takeZ 3 most bs at' 0).1.2).1, (takeZ 3 most bs at' 0).2.1) else .error (decZ (takeZ 3 most bs at' 0).1.2).2
  else .error (takeZ 3 most bs at' 0).2.2

/-- What takeValue leaves. -/
def TVPost (p : Nat) (g : Option Nat) (bs : List Int) (w : World) (r : Except Int ((Int × Int × List Int) × Nat)) (e : Ending) (w' : World) : Prop :=
  Kept (fun k => k = p) w w' ∧ match r with
  | .ok (d, a2) => e = .returned (vl d.1 d.2.1 (mkStr d.2.2)) ∧ Rd w' p g bs a2 0
  | .error E => e = refu E

/-- While a value is taken: its block, what is kept, the Reader. -/
structure Tvs (w W : World) (p : Nat) (g : Option Nat) (bs : List Int) (a : Nat) (e : Int) : Prop where
  r0 : W.heap[w.heap.size]? = some (vo 0 0 emp)
  kp : Kept (fun k => k = p) w W
  rd : Rd W p g bs a e

theorem Tvs.below {w W W' : World} {p : Nat} {g : Option Nat} {bs : List Int} {a : Nat} {e : Int} (h : Tvs w W p g bs a e) (hb : Below W.heap.size W W') : Tvs w W' p g bs a e :=
  ⟨blk_of hb h.r0 (lt_of h.r0), h.kp.trans (Kept.ofBelow hb) (fun _ _ h => h.elim), h.rd.below hb⟩

theorem DN.below {w w' : World} (h : DN w w') : Below w.heap.size w w' := by
  obtain ⟨n, rfl⟩ := h
  exact ⟨rfl, rfl, rfl, Nat.le_refl _, fun _ _ => rfl⟩

theorem tvs_start {w w1 : World} {p : Nat} {g : Option Nat} {bs : List Int} {a a2 : Nat} {e : Int} (h : Rd w p g bs a 0) (hs : RdStep p g (w.alloc (vo 0 0 emp)) w1 bs a2 e) : Tvs w w1 p g bs a2 e := by
  obtain ⟨h1, h2⟩ := hs
  have hp : p < w.heap.size := by obtain ⟨v, hv, _⟩ := h; exact lt_of hv
  have b1 := heap_alloc_new w (vo 0 0 emp)
  exact ⟨(h2.block _ (lt_of b1) (by omega)).trans b1, ((Kept.ofBelow (below1 w (vo 0 0 emp))).mono (S' := fun k => k = p) (fun _ _ h => h.elim)).trans h2 (fun _ _ h => h), h1⟩

theorem Tvs.fin {w W : World} {p : Nat} {g : Option Nat} {bs : List Int} {a : Nat} {e : Int} (h : Tvs w W p g bs a e) (hp : p < w.heap.size) (hg : ∀ k, g = some k → k < w.heap.size) (x y z : Value) (o : Obj) :
    ((((W.setCell ⟨w.heap.size, 0, none⟩ x).setCell ⟨w.heap.size, 1, none⟩ y).setCell ⟨w.heap.size, 2, none⟩ z).alloc o).heap[w.heap.size]? = some (.cells #[x, y, z] 50 (0, 0)) ∧
    Kept (fun k => k = p) w ((((W.setCell ⟨w.heap.size, 0, none⟩ x).setCell ⟨w.heap.size, 1, none⟩ y).setCell ⟨w.heap.size, 2, none⟩ z).alloc o) ∧
    Rd ((((W.setCell ⟨w.heap.size, 0, none⟩ x).setCell ⟨w.heap.size, 1, none⟩ y).setCell ⟨w.heap.size, 2, none⟩ z).alloc o) p g bs a e := by
  have h3 := set3 h.r0 x y z
  have hk : Kept (fun k => k = w.heap.size) W ((((W.setCell ⟨w.heap.size, 0, none⟩ x).setCell ⟨w.heap.size, 1, none⟩ y).setCell ⟨w.heap.size, 2, none⟩ z).alloc o) :=
    ((((Kept.refl (fun k => k = w.heap.size) W).setCell (p := ⟨w.heap.size, 0, none⟩) (fun _ => rfl) x).setCell (p := ⟨w.heap.size, 1, none⟩) (fun _ => rfl) y).setCell (p := ⟨w.heap.size, 2, none⟩) (fun _ => rfl) z).alloc o
  refine ⟨(Below.heap_alloc _ _ _ (lt_of h3)).trans h3, h.kp.trans hk (fun i hi e => (by omega)), h.rd.kept hk (by omega) (fun k hk2 e => by have := hg k hk2; omega)⟩

set_option maxRecDepth 100000 in
set_option maxHeartbeats 4000000 in
theorem takeValue_any (p : Nat) (g : Option Nat) (bs : List Int) (at' : Nat) (most : Int) (w : World) (h : Rd w p g bs at' 0) (hg : ∀ k, g = some k → k < w.heap.size) (hn0 : -9223372036854775808 ≤ most) (hn1 : most < 9223372036854775808) :
    Calls Try.prog 88 #[.pointer (some ⟨p, 0, none⟩), .int .i64 most] w (TVPost p g bs w (tkVal bs most at')) := by
  have HR := hid (rtext_any p g bs at' 0 most (w.alloc (vo 0 0 emp)) (h.below (below1 w _)) hn0 hn1)
  have hoc := takeZ_oct3 most bs at' h.oct
  have hbl : bs.length ≤ 1000000000 := by obtain ⟨_, _, _, _, _, _, _, h⟩ := h; exact h
  unfold tkVal
  obtain ⟨⟨⟨u, t⟩, a2, e2⟩, ht⟩ : ∃ t, takeZ 3 most bs at' 0 = t := ⟨_, rfl⟩
  rw [ht] at HR hoc ⊢
  dsimp only at HR hoc ⊢
  have HO := hid hoc
  have HH := hid h
  have hp0 : p < w.heap.size := by obtain ⟨v, hv, _⟩ := h; exact lt_of hv
  have HGP := hid (And.intro hp0 hg)
  clear h ht hoc hg hp0
  by_cases he : e2 = 0
  · subst he
    rw [if_pos rfl]
    obtain ⟨⟨⟨k, i, xs⟩, E⟩, hd⟩ : ∃ d, decZ t = d := ⟨_, rfl⟩
    rw [hd]
    dsimp only
    by_cases hE : E = 0
    · subst hE
      rw [if_pos rfl]
      unfold TVPost
      dsimp only
      have HD := hid hd
      clear hd
      go_enter Try.func88, Try.ntmps88
      go_wp2_with (first
        | (go_at_call 71
           refine HR.out.mono ?_
           rintro e w1 ⟨h1, rfl⟩
           have H1 := hid (tvs_start HH.out h1)
           clear h1)
        | (go_at_call 85
           refine (taken_ok p g bs a2 w1 H1.out.rd).mono ?_
           rintro e w2 ⟨rfl, h2⟩
           have H2 := hid (H1.out.below h2.below)
           obtain ⟨v3, W3, hcv, hsl, hb3⟩ := conv_bytes w2 (mkStr t)
           rw [strBs_mkStr t HO.out.1] at hsl
           have H3 := hid (And.intro hsl (H2.out.below hb3))
           clear h2 hsl hb3)
        | (go_at_call 72
           refine (decode_any v3 t W3 H3.out.1 HO.out.1 (by have := HO.out.2; omega)).mono ?_
           rintro e w4 ⟨rfl, hb4⟩
           rw [HD.out, decV, if_pos rfl]
           have H4 := hid (H3.out.2.below hb4)
           obtain ⟨c0, c1, c2, cz⟩ := vfacts H4.out.r0
           have k1 := lt_of H4.out.r0
           clear hb4)
        | (go_at_call 81; refine (insist_ok _).mono ?_; rintro e w5 ⟨rfl, e5⟩; rw [e5]; clear e5 w5))
      have HF := hid (H4.out.fin HGP.out.1 HGP.out.2 (.int .i64 k) (.int .i64 i) (.string (mkStr xs)) (.cells #[.int .i64 k, .int .i64 i, .string (mkStr xs)] 50))
      refine bodyPost_ret (ret_agg Try.results88 rfl HF.out.1) rfl ?_
      exact ⟨HF.out.2.1, rfl, HF.out.2.2⟩
    · rw [if_neg hE]
      unfold TVPost
      dsimp only
      have HD := hid hd
      clear hd
      go_enter Try.func88, Try.ntmps88
      go_wp2_with (first
        | (go_at_call 71
           refine HR.out.mono ?_
           rintro e w1 ⟨h1, rfl⟩
           have H1 := hid (tvs_start HH.out h1)
           clear h1)
        | (go_at_call 85
           refine (taken_ok p g bs a2 w1 H1.out.rd).mono ?_
           rintro e w2 ⟨rfl, h2⟩
           have H2 := hid (H1.out.below h2.below)
           obtain ⟨v3, W3, hcv, hsl, hb3⟩ := conv_bytes w2 (mkStr t)
           rw [strBs_mkStr t HO.out.1] at hsl
           have H3 := hid (And.intro hsl (H2.out.below hb3))
           clear h2 hsl hb3)
        | (go_at_call 72
           refine (decode_any v3 t W3 H3.out.1 HO.out.1 (by have := HO.out.2; omega)).mono ?_
           rintro e w4 ⟨rfl, hb4⟩
           rw [HD.out, decV, if_neg hE]
           have H4 := hid (H3.out.2.below hb4)
           obtain ⟨c0, c1, c2, cz⟩ := vfacts H4.out.r0
           have k1 := lt_of H4.out.r0
           clear hb4)
        | (go_at_call 81; refine (insist_no E hE _).mono ?_; rintro e w5 ⟨rfl, e5⟩; rw [e5]; clear e5 w5))
      exact ⟨rfl, (H4.out.below (below1 _ _)).kp, rfl⟩
  · rw [if_neg he]
    unfold TVPost
    dsimp only
    go_enter Try.func88, Try.ntmps88
    go_wp2_with (first
      | (go_at_call 71
         refine HR.out.mono ?_
         rintro e w1 ⟨h1, rfl⟩
         have H1 := hid (tvs_start HH.out h1)
         clear h1)
      | (go_at_call 85
         refine (taken_no p g bs a2 e2 he w1 H1.out.rd).mono ?_
         rintro e w2 ⟨rfl, h2⟩
         have H2 := hid (H1.out.below h2.below)
         clear h2))
    exact ⟨rfl, H2.out.kp, rfl⟩

end Go.Proofs.Ytdnlfacfleemeaa
