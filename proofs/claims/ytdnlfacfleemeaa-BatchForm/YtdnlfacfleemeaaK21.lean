import Derived.Test.YtdnlfacfleemeaaK20
import Derived.Test.YtdnlfacfleemeaaK14
import Derived.Deep.Cut
import Derived.ProofKit
import Derived.OpenShut
import Derived.Deep.Slices
import Derived.Test.YtdnlfacfleemeaaK04
import Derived.ShutString
import Derived.ChangeOld
namespace Go.Proofs.Ytdnlfacfleemeaa
open Go.RowKit Go.Lib

set_option maxRecDepth 100000 in
set_option maxHeartbeats 4000000 in
theorem form_err (v : Value) (bs : List Int) (cut : Int) (mv : Value) (ms : List Int) (w : World) (h : Sn w v bs) (ho : Oct bs) (hm : Sn w mv ms) (hl : (bs.length : Int) ≤ 200000) (hl2 : (ms.length : Int) ≤ 200000) (E : Int) (hE : decBat bs = .error E) :
    Calls Try.prog 4 #[v, .int .i64 cut, mv] w fun x w' => x = .returned (.bool true) ∧ Below w.heap.size w w' := by
  have hE0 := decBat_err bs E hE
  have HD := hid (bdecode_any v bs w h.1 ho)
  rw [hE] at HD
  unfold DB at HD
  dsimp only at HD
  obtain ⟨⟨ao, cc, rfl, -, -⟩, -⟩ := h
  obtain ⟨⟨bo', dd, rfl, -, -⟩, -⟩ := hm
  have he2 : (E == 0) = false := by simpa using hE0
  clear hE hE0 ho
  go_enter Try.func4, Try.ntmps4
  go_wp2_with (first
    | (go_at_call 10
       refine HD.out.mono ?_
       rintro e w1 ⟨hb1, rfl⟩
       have H1 := hid (hb1.alloc hb1.size (bo 0 (.slice none 0 0)))
       clear hb1)
    | (go_at_call 9
       refine (known_any _).mono ?_
       rintro e w2 ⟨rfl, hb2⟩
       have H2 := hid (below_on H1.out hb2)
       clear hb2))
  go_ret
  exact ⟨rfl, H2.out⟩

/-- Where the law is behind Decode. -/
structure Fb (w W : World) (r : Nat) (f : Int) (S : Value) (ts : List Txd) : Prop where
  r0 : W.heap[r]? = some (bo f S)
  ts : TsAt 0 W S ts
  hb : Below w.heap.size w W

theorem Fb.below {w W W' : World} {r : Nat} {f : Int} {S : Value} {ts : List Txd} (h : Fb w W r f S ts) (hb : Below W.heap.size W W') : Fb w W' r f S ts :=
  ⟨blk_of hb h.r0 (lt_of h.r0), h.ts.below hb, below_on h.hb hb⟩

theorem fb_start {w w1 : World} {f : Int} {S : Value} {ts : List Txd} {B : Nat} (hb : Below w.heap.size w w1) (ht : TsAt B w1 S ts) : Fb w (w1.alloc (bo f S)) w1.heap.size f S ts :=
  ⟨heap_alloc_new w1 _, (ht.mono (Nat.zero_le _)).below (below1 w1 _), hb.alloc hb.size _⟩

set_option maxRecDepth 100000 in
set_option maxHeartbeats 8000000 in
theorem form_ok (v : Value) (bs : List Int) (cut : Int) (mv : Value) (ms : List Int) (w : World) (h : Sn w v bs) (ho : Oct bs) (hm : Sn w mv ms) (hmo : Oct ms) (hl : (bs.length : Int) ≤ 200000) (hl2 : (ms.length : Int) ≤ 200000) (f : Int) (ts : List Txd) (hD : decBat bs = .ok (f, ts)) :
    Calls Try.prog 4 #[v, .int .i64 cut, mv] w fun x w' => x = .returned (.bool true) ∧ Below w.heap.size w w' := by
  obtain ⟨hlen, hT, hC⟩ := decBat_ok bs f ts hD
  obtain ⟨hB, hI, hxl⟩ := tkBat_bytes bs ho f ts hT
  have hTL := tkBat_L bs ho f ts hT
  have hpos := decBat_pos bs f ts hD
  have HDD := hid (fun v' bs' W' h' ho' => bdecode_any v' bs' W' h' ho')
  have HD := hid (bdecode_any v bs w h.1 ho)
  rw [hD] at HD
  unfold DB at HD
  dsimp only at HD
  have HC := hid (fun B S W hW => bcheck_any B f S ts W hW hTL (by omega))
  have HE := hid (fun B S W hW => bencode_any B f S ts W hW hTL (by omega) hI)
  rw [hC] at HC
  unfold batE at HE
  rw [if_pos hC, hB, if_pos hlen] at HE
  unfold BEnc at HE
  dsimp only at HC HE
  have HCUT := hid (fun c hc => decBat_cut bs ho f ts hD c hc)
  have HMORE := hid (fun hne => decBat_more bs ms ho hne f ts hD)
  have HS := hid h
  have HM := hid hm
  have HO := hid (And.intro ho hmo)
  obtain ⟨⟨ao, cc, rfl, -, -⟩, -⟩ := h
  obtain ⟨⟨bo', dd, rfl, -, -⟩, -⟩ := hm
  clear hT hB hI hD hC ho hmo hTL hxl
  go_enter Try.func4, Try.ntmps4
  go_upto_region 10 with (first
    | (go_at_call 10
       refine HD.out.mono ?_
       rintro e w1 ⟨hb1, S, rfl, hts⟩
       have H1 := hid (fb_start (f := f) hb1 hts)
       obtain ⟨ao2, cap2, rfl⟩ := hts.form
       clear hb1 hts)
    | (go_at_call 8
       refine (HE.out _ _ _ H1.out.ts).mono ?_
       rintro e w3 ⟨hb3, g3, rfl, ho3, hg3⟩
       have H3 := hid (And.intro (H1.out.below hb3) ho3)
       obtain ⟨p0, p1, -⟩ := vfacts2 H3.out.1.r0
       clear hb3 hg3 ho3)
    | (go_at_call 7
       refine (HC.out _ _ _ H3.out.1.ts).mono ?_
       rintro e w2 ⟨rfl, hb2⟩
       have H2 := hid (And.intro (H3.out.1.below hb2) (blk_of hb2 H3.out.2 (lt_of H3.out.2)))
       clear hb2)
    | (go_at_call 13
       refine (bytes_any _ _ bs bs _ (own_sl H2.out.2 (by omega)) (HS.out.1.below H2.out.1.hb) (by omega)).mono ?_
       rintro e w4 ⟨hd4, rfl⟩
       rw [decide_eq_true rfl]
       have H4 := hid (below_on H2.out.1.hb hd4.below)
       clear hd4))
  clear H1 H2 H3 HC HE HD p0 p1
  have htb : -(bs.length : Int) < cut.tmod bs.length ∧ cut.tmod bs.length < bs.length := by
    have h1 : (cut.tmod bs.length).natAbs < bs.length := by
      rw [Int.natAbs_tmod]
      exact Nat.mod_lt _ hpos
    omega
  have HTB := hid htb
  have hpos' : (0 : Int) < (bs.length : Int) := by omega
  clear htb
  by_cases hneg : cut.tmod bs.length < 0
  · obtain ⟨cN, hwr, hcN⟩ : ∃ c : Nat, wrap64 (cut.tmod bs.length + bs.length) = c ∧ c < bs.length := by
      have := HTB.out
      refine ⟨(cut.tmod bs.length + bs.length).toNat, ?_, by omega⟩
      unfold wrap64
      omega
    have HWR := hid hwr
    clear hwr
    go_upto_region 12 with fail
    rw [HWR.out]
    obtain ⟨rv, hrv, hsl, -⟩ := sl_to (HS.out.1.below H4.out) cN (by omega)
    obtain ⟨gv, hgv⟩ : ∃ gv, gv = Value.slice ao bs.length cc := ⟨_, rfl⟩
    rw [← hgv] at hrv HS ⊢
    obtain ⟨E, hE, hE0⟩ := HCUT.out cN hcN
    have HD2 := hid (fun W hW => HDD.out rv (bs.take cN) W hW (HO.out.1.take cN))
    rw [hE] at HD2
    unfold DB at HD2
    dsimp only at HD2
    have he2 : (E == 0) = false := by simpa using hE0
    have HSL := hid hsl
    have HGV := hid hgv
    clear hsl hE hE0 hgv
    by_cases hms : ms = []
    · subst hms
      go_wp2_with (first
        | (go_at_call 10
           refine (HD2.out _ HSL.out).mono ?_
           rintro e w5 ⟨hb5, rfl⟩
           have H5 := hid (below_on H4.out hb5)
           clear hb5)
        | (go_at_call 9
           refine (known_any _).mono ?_
           rintro e w6 ⟨rfl, hb6⟩
           have H6 := hid (below_on H5.out hb6)
           clear hb6))
      go_ret
      exact ⟨rfl, H6.out⟩
    · have hmp : (0 : Int) < (ms.length : Int) := by have := List.length_pos_iff.2 hms; omega
      have HD3 := hid (fun v' W hW => HDD.out v' (bs ++ ms) W hW (fun x hx => (List.mem_append.1 hx).elim (HO.out.1 x) (HO.out.2 x)))
      rw [HMORE.out hms] at HD3
      obtain ⟨E3, hE3⟩ : ∃ E3 : Int, E3 = if (bs ++ ms).length ≤ 65536 then 3 else 4 := ⟨_, rfl⟩
      rw [← hE3] at HD3
      have HE3 := hid hE3
      unfold DB at HD3
      dsimp only at HD3
      clear hms hE3
      go_upto_region 18 with (first
        | (go_at_call 10
           first
           | ((with_reducible show Calls _ _ _ w4 _)
              refine (HD2.out _ HSL.out).mono ?_
              rintro e w5 ⟨hb5, rfl⟩
              have H5 := hid (below_on H4.out hb5)
              clear hb5)
           | (refine (HD3.out _ _ (sl_of_owns H8.out.1)).mono ?_
              rintro e w9 ⟨hb9, rfl⟩
              have H9 := hid (below_on H8.out.2 hb9)
              clear hb9))
        | (at_builtin
           (with_reducible show wpList _ _ _ _ _ (World.alloc w5 _))
           go_loud (
           refine wpList_append_sn _ rfl _ _ rfl w5.heap.size _ 0 [] rfl ((show Own (w5.alloc (.cells #[] 5)) w5.heap.size [] from heap_alloc_new w5 _).owns (Nat.le_refl _) (by decide)) _ bs rfl ((HS.out.below H5.out).below (below1 w5 _)) (by omega) (by simp) ?_
           intro ao1 c1 w7 hown hgrow
           have H7 := hid (app_one H5.out hown hgrow (by intro k hk; simp [Value.ownBlock, Act.eval] at hk; omega))
           clear hown hgrow))
        | (at_builtin
           go_loud (
           refine wpList_append_sn _ rfl _ _ rfl w5.heap.size _ bs.length bs rfl H7.out.1 _ ms rfl (HM.out.below H7.out.2.1) (by omega) H7.out.2.2 ?_
           intro ao2 c2 w8 hown hgrow
           have H8 := hid (app_two H7.out.1 H7.out.2.1 H7.out.2.2 H5.out.size hown hgrow)
           clear hown hgrow)))
      rw [HGV.out]
      clear hrv he2 HD2 HSL
      by_cases htot : (bs ++ ms).length ≤ 65536
      · obtain rfl : E3 = 3 := by rw [HE3.out, if_pos htot]
        clear htot
        go_wp2_with (first
          | (go_at_call 9
             refine (known_any _).mono ?_
             rintro e w10 ⟨rfl, hb10⟩
             have H10 := hid (below_on H9.out hb10)
             clear hb10))
        go_ret
        exact ⟨rfl, H10.out⟩
      · obtain rfl : E3 = 4 := by rw [HE3.out, if_neg htot]
        have ht2 : (65536 : Int) < (bs.length : Int) + (ms.length : Int) := by rw [List.length_append] at htot; omega
        have ht3 : wrap64 ((bs.length : Int) + (ms.length : Int)) = (bs.length : Int) + (ms.length : Int) := by unfold wrap64; omega
        clear htot
        go_wp2_with (first
          | (go_at_call 9
             refine (known_any _).mono ?_
             rintro e w10 ⟨rfl, hb10⟩
             have H10 := hid (below_on H9.out hb10)
             clear hb10))
        go_ret
        exact ⟨rfl, H10.out⟩
  · obtain ⟨cN, hwr, hcN⟩ : ∃ c : Nat, cut.tmod bs.length = c ∧ c < bs.length := by
      have := HTB.out
      exact ⟨(cut.tmod bs.length).toNat, by omega, by omega⟩
    have HWR := hid hwr
    clear hwr
    go_upto_region 12 with fail
    rw [HWR.out]
    clear hneg
    obtain ⟨rv, hrv, hsl, -⟩ := sl_to (HS.out.1.below H4.out) cN (by omega)
    obtain ⟨gv, hgv⟩ : ∃ gv, gv = Value.slice ao bs.length cc := ⟨_, rfl⟩
    rw [← hgv] at hrv HS ⊢
    obtain ⟨E, hE, hE0⟩ := HCUT.out cN hcN
    have HD2 := hid (fun W hW => HDD.out rv (bs.take cN) W hW (HO.out.1.take cN))
    rw [hE] at HD2
    unfold DB at HD2
    dsimp only at HD2
    have he2 : (E == 0) = false := by simpa using hE0
    have HSL := hid hsl
    have HGV := hid hgv
    clear hsl hE hE0 hgv
    by_cases hms : ms = []
    · subst hms
      go_wp2_with (first
        | (go_at_call 10
           refine (HD2.out _ HSL.out).mono ?_
           rintro e w5 ⟨hb5, rfl⟩
           have H5 := hid (below_on H4.out hb5)
           clear hb5)
        | (go_at_call 9
           refine (known_any _).mono ?_
           rintro e w6 ⟨rfl, hb6⟩
           have H6 := hid (below_on H5.out hb6)
           clear hb6))
      go_ret
      exact ⟨rfl, H6.out⟩
    · have hmp : (0 : Int) < (ms.length : Int) := by have := List.length_pos_iff.2 hms; omega
      have HD3 := hid (fun v' W hW => HDD.out v' (bs ++ ms) W hW (fun x hx => (List.mem_append.1 hx).elim (HO.out.1 x) (HO.out.2 x)))
      rw [HMORE.out hms] at HD3
      obtain ⟨E3, hE3⟩ : ∃ E3 : Int, E3 = if (bs ++ ms).length ≤ 65536 then 3 else 4 := ⟨_, rfl⟩
      rw [← hE3] at HD3
      have HE3 := hid hE3
      unfold DB at HD3
      dsimp only at HD3
      clear hms hE3
      go_upto_region 18 with (first
        | (go_at_call 10
           first
           | ((with_reducible show Calls _ _ _ w4 _)
              refine (HD2.out _ HSL.out).mono ?_
              rintro e w5 ⟨hb5, rfl⟩
              have H5 := hid (below_on H4.out hb5)
              clear hb5)
           | (refine (HD3.out _ _ (sl_of_owns H8.out.1)).mono ?_
              rintro e w9 ⟨hb9, rfl⟩
              have H9 := hid (below_on H8.out.2 hb9)
              clear hb9))
        | (at_builtin
           (with_reducible show wpList _ _ _ _ _ (World.alloc w5 _))
           go_loud (
           refine wpList_append_sn _ rfl _ _ rfl w5.heap.size _ 0 [] rfl ((show Own (w5.alloc (.cells #[] 5)) w5.heap.size [] from heap_alloc_new w5 _).owns (Nat.le_refl _) (by decide)) _ bs rfl ((HS.out.below H5.out).below (below1 w5 _)) (by omega) (by simp) ?_
           intro ao1 c1 w7 hown hgrow
           have H7 := hid (app_one H5.out hown hgrow (by intro k hk; simp [Value.ownBlock, Act.eval] at hk; omega))
           clear hown hgrow))
        | (at_builtin
           go_loud (
           refine wpList_append_sn _ rfl _ _ rfl w5.heap.size _ bs.length bs rfl H7.out.1 _ ms rfl (HM.out.below H7.out.2.1) (by omega) H7.out.2.2 ?_
           intro ao2 c2 w8 hown hgrow
           have H8 := hid (app_two H7.out.1 H7.out.2.1 H7.out.2.2 H5.out.size hown hgrow)
           clear hown hgrow)))
      rw [HGV.out]
      clear hrv he2 HD2 HSL
      by_cases htot : (bs ++ ms).length ≤ 65536
      · obtain rfl : E3 = 3 := by rw [HE3.out, if_pos htot]
        clear htot
        go_wp2_with (first
          | (go_at_call 9
             refine (known_any _).mono ?_
             rintro e w10 ⟨rfl, hb10⟩
             have H10 := hid (below_on H9.out hb10)
             clear hb10))
        go_ret
        exact ⟨rfl, H10.out⟩
      · obtain rfl : E3 = 4 := by rw [HE3.out, if_neg htot]
        have ht2 : (65536 : Int) < (bs.length : Int) + (ms.length : Int) := by rw [List.length_append] at htot; omega
        have ht3 : wrap64 ((bs.length : Int) + (ms.length : Int)) = (bs.length : Int) + (ms.length : Int) := by unfold wrap64; omega
        clear htot
        go_wp2_with (first
          | (go_at_call 9
             refine (known_any _).mono ?_
             rintro e w10 ⟨rfl, hb10⟩
             have H10 := hid (below_on H9.out hb10)
             clear hb10))
        go_ret
        exact ⟨rfl, H10.out⟩

end Go.Proofs.Ytdnlfacfleemeaa

namespace Go.Proofs.Ytdnlfacfleemeaa
open Go.RowKit

theorem Try.cells5 : Try.prog.cellsOf 5 = 1 := by kernel_rfl

/-- An argument of bytes. -/
theorem bytes_of_trod {H : Type} {enc : TypeId × Value → H} {W : World} {base : Nat} {held : Bool} {ao : Option Addr} {len cap : Nat} {d : DataW H} {p : List MemPlace}
    (h : DataW.Trod enc Try.prog W base (fun _ => true) held 34 (.slice ao len cap) d p) : ∃ bs, Sn W (.slice ao len cap) bs ∧ Oct bs ∧ bs.length ≤ 9223372036854775807 := by
  obtain ⟨fuel, hf⟩ := h
  rcases Go.Deep.open_slice Try.underlying34 hf with ⟨hcs, _⟩ | ⟨a, len', cap', m, n, D, Pl, hcs, _, hl, hm, hmm, _, hx⟩
  · simp [Value.cells] at hcs
    obtain ⟨rfl, rfl, rfl⟩ := hcs
    exact ⟨[], sn_nil _, (fun x hx => nomatch hx), by simp⟩
  · simp [Value.cells] at hcs
    obtain ⟨rfl, rfl, rfl⟩ := hcs
    simp only [if_true] at hmm
    obtain rfl : cap = m := hmm.symm
    rw [Try.cells5] at hx
    have key : ∀ i, i < len → ∃ y : Int, (0 ≤ y ∧ y < 256) ∧ W.cell? ((a.add (i * 1)).add 0) = some (.int .u8 y) := by
      intro i hi
      obtain ⟨cs, h1, h2⟩ := hx i (by omega)
      obtain ⟨y, e0, _, w0⟩ := DataW.trod_int Try.underlying5 h2
      subst e0
      have b0 := bounds_u8 w0
      exact ⟨y, ⟨b0.1, by omega⟩, (World.cells?_some h1).2.2 0 (by omega)⟩
    obtain ⟨F, hF⟩ := Go.Deep.choose_lt key
    unfold maxLen at hm
    refine ⟨(List.range len).map F, ⟨⟨some a, cap, by simp, by simpa using hl, ?_⟩, .inr ⟨_, _, _, rfl⟩⟩, ?_, by simp; omega⟩
    · intro hne
      have hlen : 0 < len := by
        rcases Nat.eq_zero_or_pos len with h | h
        · subst h; simp at hne
        · exact h
      have h00 := (hF 0 hlen).2
      obtain ⟨b, off, rfl⟩ : ∃ b off, a = ⟨b, off, none⟩ := by
        obtain ⟨b, off, spot⟩ := a
        have hspot : spot = none := by simpa [Addr.add] using World.cell?_spot h00
        subst hspot
        exact ⟨b, off, rfl⟩
      refine ⟨b, off, rfl, ?_⟩
      intro j x hj
      rw [List.getElem?_map, Option.map_eq_some_iff] at hj
      obtain ⟨i, hi, rfl⟩ := hj
      have hij : i = j ∧ j < len := by
        rw [List.getElem?_eq_some_iff] at hi
        obtain ⟨q1, q2⟩ := hi
        simp at q1 q2
        exact ⟨q2.symm, q1⟩
      obtain ⟨rfl, hi2⟩ := hij
      have k := (hF i hi2).2
      rw [add_lit, add_lit] at k
      simpa using k
    · intro x hx2
      simp at hx2
      obtain ⟨i, hi, rfl⟩ := hx2
      exact (hF i hi).1

end Go.Proofs.Ytdnlfacfleemeaa

namespace Go.Proofs.Ytdnlfacfleemeaa
open Go.ChangeShapes Go.WideShapes Go.ChangeAt Go.RowKit

set_option maxRecDepth 100000 in
set_option maxHeartbeats 1600000 in
theorem form_any (v : Value) (bs : List Int) (cut : Int) (mv : Value) (ms : List Int) (w : World) (h : Sn w v bs) (ho : Oct bs) (hm : Sn w mv ms) (hmo : Oct ms) :
    Calls Try.prog 4 #[v, .int .i64 cut, mv] w fun x w' => x = .returned (.bool true) ∧ Below w.heap.size w w' := by
  by_cases hl : (bs.length : Int) ≤ 200000
  · by_cases hl2 : (ms.length : Int) ≤ 200000
    · cases hD : decBat bs with
      | error E => exact form_err v bs cut mv ms w h ho hm hl hl2 E hD
      | ok r =>
        obtain ⟨f, ts⟩ := r
        exact form_ok v bs cut mv ms w h ho hm hmo hl hl2 f ts hD
    · have hl3 : (200000 : Int) < (ms.length : Int) := by omega
      obtain ⟨⟨ao, cc, rfl, -, -⟩, -⟩ := h
      obtain ⟨⟨bo, dd, rfl, -, -⟩, -⟩ := hm
      go_enter Try.func4, Try.ntmps4
      go_wp2
      go_ret
      exact ⟨rfl, Below.refl _ _⟩
  · have hl3 : (200000 : Int) < (bs.length : Int) := by omega
    obtain ⟨⟨ao, cc, rfl, -, -⟩, -⟩ := h
    obtain ⟨⟨bo, dd, rfl, -, -⟩, -⟩ := hm
    go_enter Try.func4, Try.ntmps4
    go_wp2
    go_ret
    exact ⟨rfl, Below.refl _ _⟩

theorem Try.own : ownKnob Try.prog.godebug = none := by kernel_rfl
theorem Try.laidOut : laidOutB Try.prog = true := by kernel_rfl

set_option maxRecDepth 100000 in
theorem form_lifted (os : Os) (started : os.Started) (H : Type) (enc : TypeId × Value → H) :
    ReturnsInHanded {} Try.checked os 4 .any (Rows.batchFormSpec.pre6 enc Try.prog Try.f4 Rows.batchFormRow.domain false) (Rows.batchFormSpec.post enc Try.prog Try.f4 false true false false) := by
  refine returnsInHanded_of_change (C := Try.checked) Try.own started (by kernel_rfl) Try.func4
    (ChangeSpec.witness6 (enc := enc) (C := Try.checked) false ⟨#[], #[.slice none 0 0, .int .i64 0, .slice none 0 0], []⟩ 8 (by kernel_rfl) (by kernel_rfl) (by kernel_rfl) (by kernel_rfl)) ?_
  intro W base args ds gs before hval0 hW hcnd _
  have hval : ∀ (j : Nat) t v, Try.f4.params[j]? = some t → args[j]? = some v → Value.okWide Try.prog W .any base t v := hval0
  have hW' := hW
  obtain ⟨p, q, hA0, hV, rfl, hfz, hnd⟩ := hW
  have hA : DataW.TrodAll enc Try.prog W 0 (fun _ => true) true Try.f4.params.toList args.toList ds p := hA0
  rw [Try.params4] at hA hval
  obtain ⟨v0, vs0, d0, ds0, p0, q0, hargs, rfl, rfl, h0, r0⟩ := trodAll_cons hA
  obtain ⟨v1, vs1, d1, ds1, p1, q1, rfl, rfl, rfl, h1, r1⟩ := trodAll_cons r0
  obtain ⟨v2, vs2, d2, ds2, p2, q2, rfl, rfl, rfl, h2, r2⟩ := trodAll_cons r1
  obtain ⟨rfl, rfl, rfl⟩ := trodAll_nil r2
  obtain rfl : args = #[v0, v1, v2] := by cases args; simp_all
  obtain ⟨rfl, rfl⟩ := trodVars_none hV
  obtain ⟨a0, len0, cap0, rfl⟩ := okWide_slice Try.underlying34 (hval 0 34 v0 rfl rfl)
  obtain ⟨a2, len2, cap2, rfl⟩ := okWide_slice Try.underlying34 (hval 2 34 v2 rfl rfl)
  have k0 := h0
  have k2 := h2
  have lt0 : ∀ x ∈ p0, x.block < W.heap.size := by obtain ⟨m, hm⟩ := k0; exact DataW.trod_lt m _ _ _ hm
  have lt2 : ∀ x ∈ p2, x.block < W.heap.size := by obtain ⟨m, hm⟩ := k2; exact DataW.trod_lt m _ _ _ hm
  obtain ⟨bs, hbs, hoct, _⟩ := bytes_of_trod h0
  obtain ⟨ms, hms, hmoct, _⟩ := bytes_of_trod h2
  obtain ⟨a1, rfl, rfl, rfl, w1⟩ := open_int Try.underlying3 (hval 1 3 v1 rfl rfl) h1
  clear hA0 hval0
  refine (form_any _ bs a1 _ ms W hbs hoct hms hmoct).mono fun e W' ⟨he, bel⟩ => ?_
  subst he
  exact ⟨_, rfl, _, _, _, [], _, [], hW', trodAll_mk1 (shut_bool Try.underlying4 _), (trodAll_cons_mk (Below.trod Try.laidOut (by kernel_rfl) (of_decide_eq_true (by kernel_rfl)) k0 bel lt0) (trodAll_cons_mk (shut_int Try.underlying3 w1) (trodAll_cons_mk (Below.trod Try.laidOut (by kernel_rfl) (of_decide_eq_true (by kernel_rfl)) k2 bel lt2) trodAll_mk0))), rfl, bel.frame _, fun h => by cases h⟩

theorem batchForm_holds : Rows.BatchFormSaid :=
  OpenClaim.holds_of_wide 4 Try.f4 rfl rfl rfl rfl rfl rfl rfl ⟨rfl, rfl, rfl, rfl, rfl⟩ rfl rfl rfl rfl rfl (by kernel_rfl) Try.func4 (by kernel_rfl)
    (of_decide_eq_true (by kernel_rfl)) (by unfold Func.isWrapper; first | (rw [if_pos (by decide +kernel)]; kernel_rfl) | (rw [if_neg (by decide +kernel)]; exact ⟨rfl, rfl⟩))
    (fun os started H enc _ => form_lifted os started H enc)

#print axioms batchForm_holds
end Go.Proofs.Ytdnlfacfleemeaa
