import Derived.Test.YtdnlfacfleemeaaGreatK22
import Derived.Test.YtdnlfacfleemeaaGreatK18
import Derived.Lib.SmallJoins
namespace Go.Proofs.YtdnlfacfleemeaaGreat
open Go.RowKit Go.Lib

/-- What Encode leaves. -/
def BEnc (w : World) (r : Except Int (List Int)) (e : Ending) (w' : World) : Prop :=
  Below w.heap.size w w' ∧ match r with
  | .error E => e = .returned (.tuple #[.slice none 0 0, .int .i64 E])
  | .ok l => ∃ g, e = .returned (.tuple #[.slice (some ⟨g, 0, none⟩) l.length l.length, .int .i64 0]) ∧ Own w' g l ∧ w.heap.size ≤ g

/-- While a batch is laid. -/
structure Eb (w W : World) (p : Nat) (bs : List Int) (f : Int) (S : Value) : Prop where
  r0 : W.heap[w.heap.size]? = some (bo f S)
  wr : ∃ g, Wr w.heap.size W p g bs 0
  hb : Below w.heap.size w W
  hp : w.heap.size < p

theorem Eb.below {w W W' : World} {p : Nat} {bs : List Int} {f : Int} {S : Value} (h : Eb w W p bs f S) (hb : Below W.heap.size W W') : Eb w W' p bs f S := by
  obtain ⟨g, hg⟩ := h.wr
  exact ⟨blk_of hb h.r0 (lt_of h.r0), ⟨g, hg.kept (Kept.ofBelow hb) (fun h => h) (fun _ _ h => h)⟩, below_on h.hb hb, h.hp⟩

theorem Eb.step {w W W' : World} {p : Nat} {bs bs2 : List Int} {f : Int} {S : Value} {g : Option Nat} (h : Eb w W p bs f S) (hg : Wr w.heap.size W p g bs 0) (hs : WrStep w.heap.size p g W W' bs2 0) : Eb w W' p bs2 f S := by
  have hb := wr_below hg (Nat.le_of_lt h.hp) hs
  obtain ⟨g', h1, h2, hk⟩ := hs
  exact ⟨(hk.block _ (lt_of h.r0) (hg.other h.r0 (by decide) (by decide))).trans h.r0, ⟨g', h1⟩, h.hb.trans hb, h.hp⟩

theorem eb_new {w w1 : World} {f : Int} {S : Value} (hb : Below (w.alloc (bo f S)).heap.size (w.alloc (bo f S)) w1) : Eb w (w1.alloc (.cells #[.slice none 0 0, .int .i64 0] 58)) w1.heap.size [] f S := by
  have h0 := blk_of hb (heap_alloc_new w (bo f S)) (by simp)
  have hb' : Below w.heap.size w w1 := (below1 w _).trans (hb.mono (below1 w (bo f S)).size)
  exact ⟨(Below.heap_alloc _ _ _ (lt_of h0)).trans h0, ⟨none, wr_new w1 _⟩, hb'.alloc hb'.size _, lt_of h0⟩

theorem ttake (ts : List Txd) (n : Nat) (t : Txd) (h : ts[n]? = some t) : (ts.take (n + 1)).flatMap txB = (ts.take n).flatMap txB ++ txB t := by
  rw [List.take_add_one, h]
  simp [List.flatMap_append]

set_option maxRecDepth 100000 in
set_option maxHeartbeats 4000000 in
theorem bencode_no (B : Nat) (f : Int) (S : Value) (ts : List Txd) (w : World) (h : TsAt B w S ts) (hL : ∀ t ∈ ts, TxL t) (hl : ts.length ≤ 1000000000) (hE : batChk f ts ≠ 0) :
    Calls Tryz.prog 12 #[.agg #[.int .i64 f, S]] w (BEnc w (.error (batChk f ts))) := by
  have HC := hid (bcheck_any B f S ts (w.alloc (bo f S)) (h.below (below1 w _)) hL hl)
  have he2 : (batChk f ts == 0) = false := by simpa using hE
  generalize batChk f ts = E at *
  have hB0 := hid (below1 w (bo f S))
  obtain ⟨ao, cap, rfl, hcap, -⟩ := h
  unfold BEnc
  dsimp only
  clear hL hE
  go_enter Tryz.func12, Tryz.ntmps12
  go_wp2_with (first
    | (go_at_call 8
       refine HC.out.mono ?_
       rintro e w1 ⟨rfl, hb1⟩
       have H1 := hid (below_on hB0.out hb1)
       clear hb1))
  go_ret2
  exact ⟨H1.out, rfl⟩

set_option maxRecDepth 100000 in
set_option maxHeartbeats 4000000 in
theorem bencode_ok (B : Nat) (f : Int) (S : Value) (ts : List Txd) (w : World) (h : TsAt B w S ts) (hL : ∀ t ∈ ts, TxL t) (hl : ts.length ≤ 1000000000) (ho : ∀ t ∈ ts, TxOk t) (hE : batChk f ts = 0) :
    Calls Tryz.prog 12 #[.agg #[.int .i64 f, S]] w (BEnc w (if (batB f ts).length ≤ 65536 then .ok (batB f ts) else .error 4)) := by
  have HC := hid (bcheck_any B f S ts (w.alloc (bo f S)) (h.below (below1 w _)) hL hl)
  obtain ⟨f0, f1, l0, l1, l2, hts⟩ := batChk_good f ts hE
  rw [hE] at HC
  have HB := hid (batB_small f ts hts l1)
  have HT := hid (tsChk_all ts hts)
  have HO := hid ho
  obtain ⟨ao, cap, rfl, hcap, hcells⟩ := h
  have HX := hid hcells
  have hr1 := rowF_le 10 f
  have hr2 := rowF_le 10 (ts.length : Int)
  obtain ⟨hd, hhd⟩ : ∃ hd, hd = [] ++ rowF 10 f ++ rowF 10 (ts.length : Int) := ⟨_, rfl⟩
  have hdl : hd.length ≤ 1000 := by rw [hhd]; simp only [List.length_append, List.length_nil]; omega
  have HHD := hid hhd
  have L1 : Hid (([] ++ rowF 10 f).length ≤ 1000000000) := hid (by simp only [List.length_append, List.length_nil]; omega)
  clear hL hE hts ho hcells hhd hr1 hr2
  generalize hPo : BEnc w (if (batB f ts).length ≤ 65536 then .ok (batB f ts) else .error 4) = Po
  have HPO := hid hPo
  clear hPo
  go_enter Tryz.func12, Tryz.ntmps12
  go_wp2_with (first
    | (go_at_call 8
       refine HC.out.mono ?_
       rintro e w1 ⟨rfl, hb1⟩
       have H1 := hid (eb_new hb1)
       obtain ⟨p0, p1, -⟩ := vfacts2 (blk_of hb1 (heap_alloc_new w _) (by simp))
       have k0 : w.heap.size < w1.heap.size := H1.out.hp
       clear hb1)
    | (go_at_call 20
       first
       | (obtain ⟨g1, hg1⟩ := H1.out.wr
          refine (wnum_any w.heap.size w1.heap.size g1 _ 0 _ f hg1 H1.out.hb.size (by omega) (by simp)).mono ?_
          rintro e w2 ⟨rfl, hs2⟩
          rw [wnum_eq _ _ (by omega)] at hs2
          have H2 := hid (H1.out.step hg1 hs2)
          obtain ⟨p0, p1, -⟩ := vfacts2 H2.out.r0
          clear hs2 hg1 g1 H1)
       | (obtain ⟨g1, hg1⟩ := H2.out.wr
          refine (wnum_any w.heap.size w1.heap.size g1 _ 0 _ (ts.length : Int) hg1 H2.out.hb.size (by omega) L1.out).mono ?_
          rintro e w3 ⟨rfl, hs3⟩
          rw [wnum_eq _ _ (by omega)] at hs3
          have H3 := hid (H2.out.step hg1 hs3)
          rw [← HHD.out] at H3
          obtain ⟨p0, p1, -⟩ := vfacts2 H3.out.r0
          clear hs3 hg1 g1 H2)))
  go_loopw [28] (fun ix wr => ∃ (n : Nat), n ≤ ts.length ∧ ix = .int .i64 n ∧ Hid (Eb w wr w1.heap.size (hd ++ (ts.take n).flatMap txB) f (.slice ao ts.length cap))) (fun ix _ => ts.length - (intOf ix).toNat)
  case atStart => exact ⟨0, Nat.zero_le _, rfl, hid (by simpa using H3.out)⟩
  case round =>
    clear H3 p0 p1
    obtain ⟨n, hn2, rfl, hP⟩ := hrel
    by_cases hlt2 : n < ts.length
    · obtain ⟨t, htn⟩ : ∃ t, ts[n]? = some t := ⟨_, List.getElem?_eq_getElem hlt2⟩
      obtain ⟨b, off, rfl, hBb, hat⟩ := HX.out (by intro e; rw [e] at hlt2; simp at hlt2)
      obtain ⟨S1, S2, hc, hS1, hS2⟩ := hat n t htn
      obtain ⟨d0, d1, d2, d3, d4, d5⟩ := hc.same (hP.out.hb.block b hc.lt)
      have hmem := List.mem_of_getElem? htn
      have hlt2' : (n : Int) < (ts.length : Int) := by omega
      have m2 := World.new_ne wr ⟨b, off + n * 6, none⟩ d0
      have HTk := hid (ttake ts n t htn)
      have HD := hid (fun W => deedOf_any t S1 S2 W)
      have HS := hid (And.intro hS1 hS2)
      have HTt := hid (And.intro (HT.out t hmem) (HO.out t hmem))
      have HLN : Hid ((hd ++ (ts.take n).flatMap txB).length ≤ 500000000) := hid (by
        have h9 := flat_lenI txB 140000 (ts.take n) (fun v hv2 => txB_small v (HT.out v (List.mem_of_mem_take hv2)))
        have h8 : (ts.take n).length ≤ 64 := by rw [List.length_take]; omega
        have h7 : 140000 * (ts.take n).length ≤ 140000 * 64 := Nat.mul_le_mul_left _ h8
        rw [List.length_append]
        omega)
      obtain ⟨a1, c1, rfl⟩ := hS1.form
      obtain ⟨a2, c2, rfl⟩ := hS2.form
      obtain ⟨dv, hdv⟩ : ∃ dv, dv = deed t (.slice a1 t.xs.length c1) (.slice a2 t.vs.length c2) := ⟨_, rfl⟩
      have HDV := hid hdv
      rw [← hdv] at HD
      clear hat hc htn hmem hS1 hS2 hdv
      go_wp2_with (first
        | (go_at_call 22
           refine (HD.out _).mono ?_
           rintro e w5 ⟨rfl, hb5⟩
           have H5 := hid (hP.out.below (below_on (below1 wr _) hb5))
           clear hb5)
        | (go_at_call 21
           obtain ⟨g1, hg1⟩ := H5.out.wr
           rw [HDV.out]
           refine (blay_any w _ B w1.heap.size g1 _ t _ _ hg1 (Nat.le_of_lt H5.out.hp) H5.out.hb HS.out.1 HS.out.2 HTt.out.1 HTt.out.2 HLN.out).mono ?_
           rintro e w6 ⟨rfl, hs6⟩
           have H6 := hid (H5.out.step hg1 hs6)
           clear hs6 hg1 g1))
      go_roundw
      case rel =>
        refine ⟨n + 1, by omega, by go_num, hid ?_⟩
        rw [HTk.out, ← List.append_assoc]
        exact H6.out
      case measure => simp [intOf]; omega
    · have htk : ts.take n = ts := List.take_of_length_le (by omega)
      rw [htk] at hP
      have HP2 := hid (show hd ++ ts.flatMap txB = batB f ts by rw [HHD.out, batB, List.nil_append])
      rw [HP2.out] at hP
      have hbl := HB.out
      by_cases hlen : (batB f ts).length ≤ 65536
      · rw [if_pos hlen] at HPO
        generalize hbb : batB f ts = bb at *
        have hd4 : decide ((65536 : Int) < (bb.length : Int)) = false := by simp; omega
        clear hbb htk hlen
        go_wp2_with (first
          | (go_at_call 23
             obtain ⟨g1, hg1⟩ := hP.out.wr
             refine (wdata_any w.heap.size w1.heap.size g1 _ _ _ hg1 (by omega)).mono ?_
             rintro e w7 ⟨rfl, ho7, hb7⟩
             have H7 := hid (And.intro ho7 (And.intro hP.out.hb.size (below_on hP.out.hb hb7)))
             clear ho7 hb7 hg1 g1))
        rw [← HPO.out]
        exact ⟨H7.out.2.2, _, rfl, H7.out.1, H7.out.2.1⟩
      · rw [if_neg hlen] at HPO
        generalize hbb : batB f ts = bb at *
        have hd4 : (65536 : Int) < (bb.length : Int) := by omega
        clear hbb htk hlen
        go_wp2_with (first
          | (go_at_call 23
             obtain ⟨g1, hg1⟩ := hP.out.wr
             refine (wdata_any w.heap.size w1.heap.size g1 _ _ _ hg1 (by omega)).mono ?_
             rintro e w7 ⟨rfl, ho7, hb7⟩
             have H7 := hid (And.intro ho7 (And.intro hP.out.hb.size (below_on hP.out.hb hb7)))
             clear ho7 hb7 hg1 g1))
        rw [← HPO.out]
        exact ⟨H7.out.2.2, rfl⟩

theorem bencode_any (B : Nat) (f : Int) (S : Value) (ts : List Txd) (w : World) (h : TsAt B w S ts) (hL : ∀ t ∈ ts, TxL t) (hl : ts.length ≤ 1000000000) (ho : ∀ t ∈ ts, TxOk t) :
    Calls Tryz.prog 12 #[.agg #[.int .i64 f, S]] w (BEnc w (batE f ts)) := by
  unfold batE
  by_cases hE : batChk f ts = 0
  · rw [if_pos hE]
    exact bencode_ok B f S ts w h hL hl ho hE
  · rw [if_neg hE]
    exact bencode_no B f S ts w h hL hl hE

end Go.Proofs.YtdnlfacfleemeaaGreat

namespace Go.Proofs.YtdnlfacfleemeaaGreat
open Go.RowKit Go.Lib

/-- The chapter's batch. -/
def kP : ByteArray := ⟨#[112]⟩
def kTs : List Txd := [⟨2, emp, 0, [], kP, [⟨1, 7, emp⟩]⟩]
def kB : List Int := [1, 1, 2, 1, 112, 1, 2, 1, 14]

theorem kb_name : nameB kP = true := by decide
theorem kb_chk : batChk 1 kTs = 0 := by
  simp [batChk, kTs, tsChk, txChk, txHead, vsChk, chk, kb_name]
theorem kb_none : batChk 0 [] = 1 := by decide
theorem kb_bytes : batB 1 kTs = kB := by decide
theorem kb_enc : batE 1 kTs = .ok kB := by
  unfold batE
  rw [if_pos kb_chk, kb_bytes, if_pos (by decide)]
theorem kb_tk : tkBat kB = .ok (1, [⟨2, emp, 0, [], mkStr [112], [⟨1, 7, mkStr []⟩]⟩]) := by kernel_rfl
theorem kb_dec : decBat kB = .ok (1, kTs) := by
  unfold decBat
  rw [if_pos (by decide), kb_tk]
  have e : ([⟨2, emp, 0, [], mkStr [112], [⟨1, 7, mkStr []⟩]⟩] : List Txd) = kTs := rfl
  dsimp only
  rw [e, if_pos kb_chk]
theorem kb_oct : Oct kB := by
  intro x hx
  simp only [kB, List.mem_cons, List.mem_nil_iff, or_false] at hx
  omega
theorem kb_L : ∀ t ∈ kTs, TxL t := by
  intro t ht
  simp only [kTs, List.mem_cons, List.mem_nil_iff, or_false] at ht
  subst ht
  exact ⟨by simp, by simp⟩
theorem kb_ok : ∀ t ∈ kTs, TxOk t := by
  intro t ht
  simp only [kTs, List.mem_cons, List.mem_nil_iff, or_false] at ht
  subst ht
  exact ⟨fun x hx => by simp at hx, fun v hv => by simp at hv; subst hv; exact ⟨by decide, by decide⟩⟩

/-- While the known answers are asked. -/
structure Kb (w W : World) : Prop where
  b0 : W.heap[w.heap.size]? = some (.cells #[.int .i64 1, .int .i64 7, .string emp] 51 (0, 0))
  b1 : W.heap[w.heap.size + 1]? = some (.cells #[.int .i64 2, .string emp, .int .i64 0, .slice none 0 0, .string kP, .slice (some ⟨w.heap.size, 0, none⟩) 1 1] 30 (0, 0))
  b2 : W.heap[w.heap.size + 1 + 1]? = some (bo 1 (.slice (some ⟨w.heap.size + 1, 0, none⟩) 1 1))
  hb : Below w.heap.size w W

theorem Kb.below {w W W' : World} (h : Kb w W) (hb : Below W.heap.size W W') : Kb w W' := ⟨blk_of hb h.b0 (lt_of h.b0), blk_of hb h.b1 (lt_of h.b1), blk_of hb h.b2 (lt_of h.b2), below_on h.hb hb⟩

theorem Kb.ts {w W : World} (h : Kb w W) : TsAt 0 W (.slice (some ⟨w.heap.size + 1, 0, none⟩) 1 1) kTs := by
  refine ⟨_, _, rfl, Nat.le_refl _, fun _ => ⟨_, _, rfl, Nat.zero_le _, fun j t ht => ?_⟩⟩
  have hj : j = 0 := by
    have := (List.getElem?_eq_some_iff.1 ht).1
    simp [kTs] at this
    exact this
  subst hj
  simp [kTs] at ht
  subst ht
  obtain ⟨c0, c1, c2, c3, c4, c5, -⟩ := vfacts6 h.b1
  refine ⟨_, _, ⟨c0, c1, c2, c3, c4, c5⟩, ⟨none, 0, rfl, Nat.le_refl _, fun h => absurd rfl h⟩, _, _, rfl, Nat.le_refl _, fun _ => ⟨_, _, rfl, Nat.zero_le _, fun i v hv => ?_⟩⟩
  have hi : i = 0 := by
    have := (List.getElem?_eq_some_iff.1 hv).1
    simpa using this
  subst hi
  simp at hv
  subst hv
  obtain ⟨d0, d1, d2, -⟩ := vfacts h.b0
  exact ⟨d0, d1, d2⟩

theorem kb_start (w : World) : Kb w (((w.alloc (.cells #[.int .i64 1, .int .i64 7, .string emp] 51)).alloc (.cells #[.int .i64 2, .string emp, .int .i64 0, .slice none 0 0, .string kP, .slice (some ⟨w.heap.size, 0, none⟩) 1 1] 30)).alloc (bo 1 (.slice (some ⟨w.heap.size + 1, 0, none⟩) 1 1))) := by
  have b2 := heap_alloc_new ((w.alloc (.cells #[.int .i64 1, .int .i64 7, .string emp] 51)).alloc (.cells #[.int .i64 2, .string emp, .int .i64 0, .slice none 0 0, .string kP, .slice (some ⟨w.heap.size, 0, none⟩) 1 1] 30)) (bo 1 (.slice (some ⟨w.heap.size + 1, 0, none⟩) 1 1))
  refine ⟨?_, ?_, by simpa using b2, (below2 w _ _).alloc (by simp; omega) _⟩
  · rw [Below.heap_alloc _ _ _ (by simp; omega)]; exact two1 w _ _
  · rw [Below.heap_alloc _ _ _ (by simp)]; exact two2 w _ _

abbrev kArr9 : Array Value := #[.int .u8 1, .int .u8 1, .int .u8 2, .int .u8 1, .int .u8 112, .int .u8 1, .int .u8 2, .int .u8 1, .int .u8 14]

theorem conv9 (w : World) : (convert 39 39 (.slice (some ⟨w.heap.size, 0, none⟩) 9 9)).run Tryz.prog (w.alloc (.cells kArr9 5)) = .ok (.slice (some ⟨w.heap.size, 0, none⟩) 9 9) (w.alloc (.cells kArr9 5 (9, 10))) :=
  Go.Joins.run_convert_bytes_const_at w 39 5 kArr9 9 9 w.heap.size rfl Tryz.underlying39 Tryz.underlying5

theorem sl_k9 (w : World) : Sl (w.alloc (.cells kArr9 5 (9, 10))) (.slice (some ⟨w.heap.size, 0, none⟩) 9 9) kB := by
  refine ⟨_, _, rfl, Nat.le_refl _, fun _ => ⟨_, _, rfl, fun j x hx => ?_⟩⟩
  rw [Nat.zero_add, World.cell?_alloc_mark]
  have hj : j < 9 := (List.getElem?_eq_some_iff.1 hx).1
  have : (kArr9 : Array Value)[j]? = (kB.map (Value.int .u8))[j]? := by
    rcases (show j = 0 ∨ j = 1 ∨ j = 2 ∨ j = 3 ∨ j = 4 ∨ j = 5 ∨ j = 6 ∨ j = 7 ∨ j = 8 by omega) with rfl | rfl | rfl | rfl | rfl | rfl | rfl | rfl | rfl <;> rfl
  rw [this, List.getElem?_map, hx]
  rfl

theorem own_sl {w : World} {g : Nat} {bs : List Int} (h : Own w g bs) (hl : bs.length ≤ 1000000000) : Sl w (.slice (some ⟨g, 0, none⟩) bs.length bs.length) bs :=
  sl_of_owns (h.owns (B := 0) (Nat.zero_le _) (by unfold maxLen; omega))

set_option maxRecDepth 100000 in
set_option maxHeartbeats 4000000 in
theorem known_any (w : World) : Calls Tryz.prog 11 #[] w fun e w' => e = .returned (.bool true) ∧ Below w.heap.size w w' := by
  have H0 := hid (kb_start w)
  have HC := hid (fun B S W hW => bcheck_any B 1 S kTs W hW kb_L (by decide))
  rw [kb_chk] at HC
  have HN := hid (fun W => bcheck_any 0 0 (.slice none 0 0) [] W ⟨none, 0, rfl, Nat.le_refl _, fun h => absurd rfl h⟩ (by intro t ht; simp at ht) (by decide))
  rw [kb_none] at HN
  have HE := hid (fun B S W hW => bencode_any B 1 S kTs W hW kb_L (by decide) kb_ok)
  have HD := hid (fun v W hW => bdecode_any v kB W hW kb_oct)
  rw [kb_dec] at HD
  rw [kb_enc] at HE
  unfold BEnc at HE
  unfold DB at HD
  dsimp only at HC HN HE HD
  have HSm := hid (fun S S' W h1 h2 => bsame_any 0 0 1 S kTs 1 S' kTs W h1 h2 kb_L (by decide))
  rw [decide_eq_true (And.intro rfl rfl)] at HSm
  go_enter Tryz.func11, Tryz.ntmps11
  go_upto_region 4 with (first
    | (go_at_call 12
       refine (HE.out _ _ _ H0.out.ts).mono ?_
       rintro e w1 ⟨hb1, g1, rfl, ho1, hg1⟩
       rw [show kB.length = 9 from rfl]
       have H1 := hid (And.intro (H0.out.below hb1) ho1)
       have hcv := conv9 w1
       clear hb1 ho1 hg1)
    | (go_at_call 15
       refine (HD.out _ _ (sl_k9 w1)).mono ?_
       rintro e w2 ⟨hb2, S, rfl, hts⟩
       have H2 := hid (And.intro (H1.out.1.below (below_on (below1 w1 _) hb2)) (And.intro (blk_of (below_on (below1 w1 _) hb2) H1.out.2 (lt_of H1.out.2)) (hts.mono (Nat.zero_le _))))
       obtain ⟨ao, cap, rfl⟩ := hts.form
       clear hb2 hts))
  have H3 := hid (And.intro (H2.out.1.below (below1 w2 (bo 1 (.slice ao kTs.length cap)))) (And.intro (blk_of (below1 w2 (bo 1 (.slice ao kTs.length cap))) H2.out.2.1 (lt_of H2.out.2.1)) (And.intro (H2.out.2.2.below (below1 w2 (bo 1 (.slice ao kTs.length cap)))) (heap_alloc_new w2 (bo 1 (.slice ao kTs.length cap))))))
  generalize w2.alloc (bo 1 (.slice ao kTs.length cap)) = W3 at H3 ⊢
  have hcv2 := conv9 W3
  obtain ⟨p0, p1, -⟩ := vfacts2 H3.out.1.b2
  obtain ⟨q0, q1, -⟩ := vfacts2 H3.out.2.2.2
  clear H0 H1 H2 HE HD hcv
  go_wp2_with (first
    | (go_at_call 14
       refine (bytes_any _ _ kB kB _ (own_sl (blk_of (below1 W3 _) H3.out.2.1 (lt_of H3.out.2.1)) (by decide)) (sl_k9 W3) (by decide)).mono ?_
       rintro e w4 ⟨hd4, rfl⟩
       rw [decide_eq_true rfl]
       have hb4 := below_on (below1 W3 _) hd4.below
       have H4 := hid (And.intro (H3.out.1.below hb4) (And.intro (H3.out.2.2.1.below hb4) (blk_of hb4 H3.out.2.2.2 (lt_of H3.out.2.2.2))))
       obtain ⟨p0, p1, -⟩ := vfacts2 H4.out.1.b2
       obtain ⟨q0, q1, -⟩ := vfacts2 H4.out.2.2
       clear hd4 hb4 H3)
    | (go_at_call 17
       refine (HSm.out _ _ _ H4.out.1.ts H4.out.2.1).mono ?_
       rintro e w5 ⟨rfl, hb5⟩
       have H5 := hid (H4.out.1.below hb5)
       obtain ⟨p0, p1, -⟩ := vfacts2 H5.out.b2
       clear hb5 H4)
    | (go_at_call 8
       first
       | (refine (HC.out _ _ _ H5.out.ts).mono ?_
          rintro e w6 ⟨rfl, hb6⟩
          have H6 := hid (below_on H5.out.hb hb6)
          clear hb6 H5)
       | (refine (HN.out _).mono ?_
          rintro e w7 ⟨rfl, hb7⟩
          have H7 := hid (below_on H6.out hb7)
          clear hb7 H6)))
  go_ret
  exact ⟨rfl, H7.out⟩

end Go.Proofs.YtdnlfacfleemeaaGreat
