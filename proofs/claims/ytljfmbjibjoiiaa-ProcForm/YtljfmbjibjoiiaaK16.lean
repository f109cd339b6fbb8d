import Derived.Test.YtljfmbjibjoiiaaK14
import Derived.Test.YtljfmbjibjoiiaaK15
import Derived.Deep.Cut
import Derived.ProofKit
import Derived.OpenShut
import Derived.Deep.Slices
import Derived.Test.YtljfmbjibjoiiaaK04
import Derived.ShutString
import Derived.ChangeOld
namespace Go.Proofs.Ytljfmbjibjoiiaa
open Go.RowKit Go.Lib

theorem tkFs_err (bs : List Int) : ∀ (fs : List Fk) (x : Ins) (a : Nat) (E : Int), tkFs bs fs x a = .error E → E ≠ 0 := by
  intro fs
  induction fs with
  | nil => intro x a E h; rw [tkFs] at h; cases h
  | cons f fs ih =>
    intro x a E h
    rw [tkFs] at h
    by_cases h0 : (tkf f bs a).2.2 = 0
    · rw [if_pos h0] at h; exact ih _ _ _ h
    · rw [if_neg h0] at h; injection h with h; rw [← h]; exact h0

theorem tkVal_err (bs : List Int) (most : Int) (a : Nat) (E : Int) (h : tkVal bs most a = .error E) : E ≠ 0 := by
  unfold tkVal at h
  split at h
  · split at h
    · cases h
    · rename_i h0; injection h with h; rw [← h]; exact h0
  · rename_i h0; injection h with h; rw [← h]; exact h0

theorem tkIns_err (bs : List Int) (most : Int) (a : Nat) (E : Int) (h : tkIns bs most a = .error E) : E ≠ 0 := by
  unfold tkIns at h
  split at h
  · split at h
    · cases hT : tkFs bs (opF (opN (takeZ 0 1 bs a 0).1.1)) (zIns (takeZ 0 1 bs a 0).1.1) (takeZ 0 1 bs a 0).2.1 with
      | error E2 =>
        rw [hT] at h
        have h : E2 = E := by simpa [tkAfter] using h
        rw [← h]
        exact tkFs_err bs _ _ _ _ hT
      | ok r =>
        obtain ⟨x, a2⟩ := r
        rw [hT] at h
        unfold tkAfter at h
        dsimp only at h
        split at h
        · cases hV : tkVal bs most a2 with
          | error E2 =>
            rw [hV] at h
            have h : E2 = E := by simpa using h
            rw [← h]
            exact tkVal_err bs most a2 E2 hV
          | ok r => rw [hV] at h; cases h
        · cases h
    · injection h with h; rw [← h]; decide
  · rename_i h0; injection h with h; rw [← h]; exact h0

theorem tkCode_err (bs : List Int) (most : Int) : ∀ (n a : Nat) (E : Int), tkCode bs most n a = .error E → E ≠ 0 := by
  intro n
  induction n with
  | zero => intro a E h; rw [tkCode] at h; cases h
  | succ n ih =>
    intro a E h
    rw [tkCode] at h
    cases hI : tkIns bs most a with
    | error E2 =>
      rw [hI] at h
      have h : E2 = E := by simpa using h
      rw [← h]
      exact tkIns_err bs most a E2 hI
    | ok r =>
      obtain ⟨x, a2⟩ := r
      rw [hI] at h
      dsimp only at h
      cases hC : tkCode bs most n a2 with
      | error E2 =>
        rw [hC] at h
        have h : E2 = E := by simpa using h
        rw [← h]
        exact ih a2 E2 hC
      | ok r => rw [hC] at h; cases h

theorem tkProc_err (bs : List Int) (E : Int) (h : tkProc bs = .error E) : E ≠ 0 := by
  unfold tkProc at h
  split at h
  · split at h
    · unfold tkEnd at h
      split at h
      · rename_i E2 hC
        have h : E2 = E := by simpa using h
        rw [← h]
        exact tkCode_err _ _ _ _ _ hC
      · split at h
        · cases h
        · rename_i h0; injection h with h; rw [← h]; exact h0
    · injection h with h; rw [← h]; decide
  · rename_i h0; injection h with h; rw [← h]; exact h0

theorem decP_err (bs : List Int) (E : Int) (h : decP bs = .error E) : E ≠ 0 := by
  unfold decP at h
  cases hT : tkProc bs with
  | error E2 =>
    rw [hT] at h
    have h : E2 = E := by simpa using h
    rw [← h]
    exact tkProc_err bs E2 hT
  | ok r =>
    obtain ⟨nm, ar, xs⟩ := r
    rw [hT] at h
    dsimp only at h
    split at h
    · cases h
    · rename_i h0; injection h with h; rw [← h]; exact h0

theorem decP_ok (bs : List Int) (nm : List Int) (ar : Int) (xs : List Ins) (h : decP bs = .ok (nm, ar, xs)) : tkProc bs = .ok (nm, ar, xs) ∧ (procChk (mkStr nm) ar xs).2 = 0 := by
  unfold decP at h
  cases hT : tkProc bs with
  | error E2 => rw [hT] at h; cases h
  | ok r =>
    obtain ⟨nm', ar', xs'⟩ := r
    rw [hT] at h
    dsimp only at h
    split at h
    · rename_i h0
      injection h with h
      injection h with h1 h
      injection h with h2 h3
      subst h1 h2 h3
      exact ⟨rfl, h0⟩
    · cases h

/-- Another procedure's beginning is none. -/
theorem decP_cut (bs : List Int) (ho : Oct bs) (nm : List Int) (ar : Int) (xs : List Ins) (h : decP bs = .ok (nm, ar, xs)) (c : Nat) (hc : c < bs.length) : ∃ E, decP (bs.take c) = .error E ∧ E ≠ 0 := by
  cases hD : decP (bs.take c) with
  | error E => exact ⟨E, rfl, decP_err _ _ hD⟩
  | ok r =>
    obtain ⟨nm', ar', xs'⟩ := r
    exfalso
    have h1 := (decP_ok _ _ _ _ hD).1
    have h2 := tkProc_more (bs.take c) (bs.drop c) (ho.take c) (by intro e; have := congrArg List.length e; simp at this; omega) _ _ _ h1
    rw [List.take_append_drop, (decP_ok _ _ _ _ h).1] at h2
    cases h2

theorem decP_more (bs m : List Int) (ho : Oct bs) (hm : m ≠ []) (nm : List Int) (ar : Int) (xs : List Ins) (h : decP bs = .ok (nm, ar, xs)) : decP (bs ++ m) = .error 3 := by
  unfold decP
  rw [tkProc_more bs m ho hm nm ar xs (decP_ok _ _ _ _ h).1]

theorem decP_pos (bs : List Int) (nm : List Int) (ar : Int) (xs : List Ins) (h : decP bs = .ok (nm, ar, xs)) : 0 < bs.length := by
  cases bs with
  | nil =>
    have h1 := (decP_ok _ _ _ _ h).1
    have e : tkProc [] = .error 2 := by rfl
    rw [e] at h1
    cases h1
  | cons b bs => simp

/-- Where the law is behind Decode. -/
structure Fst (w W : World) (r : Nat) (nm : ByteArray) (ar : Int) (xs : List Ins) (cb : Nat) : Prop where
  r0 : W.heap[r]? = some (po nm ar (.slice (some ⟨cb, 0, none⟩) xs.length xs.length))
  bk : ∃ cs, W.heap[cb]? = some (.cells cs 28 (0, 0))
  co : ∀ (j : Nat) (x : Ins), xs[j]? = some x → InsAt W cb (j * 8) x
  hb : Below w.heap.size w W

theorem Fst.below {w W W' : World} {r : Nat} {nm : ByteArray} {ar : Int} {xs : List Ins} {cb : Nat} (h : Fst w W r nm ar xs cb) (hb : Below W.heap.size W W') : Fst w W' r nm ar xs cb := by
  obtain ⟨cs, hc⟩ := h.bk
  have hl := hb.block _ (lt_of hc)
  exact ⟨blk_of hb h.r0 (lt_of h.r0), ⟨cs, hl.trans hc⟩, fun j x hx => (h.co j x hx).same hl, below_on h.hb hb⟩

theorem Fst.code {w W : World} {r : Nat} {nm : ByteArray} {ar : Int} {xs : List Ins} {cb : Nat} (h : Fst w W r nm ar xs cb) : CodeAt W (.slice (some ⟨cb, 0, none⟩) xs.length xs.length) xs :=
  ⟨_, _, rfl, Nat.le_refl _, fun _ => ⟨cb, 0, rfl, fun j x hx => by rw [Nat.zero_add]; exact h.co j x hx⟩⟩

theorem fst_start {w w1 : World} {nm : ByteArray} {ar : Int} {xs : List Ins} {cb : Nat} (hb : Below w.heap.size w w1) (bk : ∃ cs, w1.heap[cb]? = some (.cells cs 28 (0, 0))) (co : ∀ (j : Nat) (x : Ins), xs[j]? = some x → InsAt w1 cb (j * 8) x) :
    Fst w (w1.alloc (po nm ar (.slice (some ⟨cb, 0, none⟩) xs.length xs.length))) w1.heap.size nm ar xs cb := by
  obtain ⟨cs, hc⟩ := bk
  have hl : ((w1.alloc (po nm ar (.slice (some ⟨cb, 0, none⟩) xs.length xs.length))).heap[cb]?) = w1.heap[cb]? := Below.heap_alloc _ _ _ (lt_of hc)
  exact ⟨heap_alloc_new w1 _, ⟨cs, hl.trans hc⟩, fun j x hx => (co j x hx).same hl, hb.alloc hb.size _⟩

set_option maxRecDepth 100000 in
set_option maxHeartbeats 4000000 in
theorem form_err (v : Value) (bs : List Int) (cut : Int) (mv : Value) (ms : List Int) (w : World) (h : Sn w v bs) (ho : Oct bs) (hm : Sn w mv ms) (hl : (bs.length : Int) ≤ 65536) (hl2 : (ms.length : Int) ≤ 65536) (E : Int) (hE : decP bs = .error E) :
    Calls Try.prog 7 #[v, .int .i64 cut, mv] w fun x w' => x = .returned (.bool true) ∧ Below w.heap.size w w' := by
  have hE0 := decP_err bs E hE
  have HD := hid (pdecode_any v bs w h.1 ho (by omega))
  rw [hE] at HD
  unfold DPost at HD
  dsimp only at HD
  obtain ⟨⟨ao, cc, rfl, -, -⟩, -⟩ := h
  obtain ⟨⟨bo, dd, rfl, -, -⟩, -⟩ := hm
  have he2 : (E == 0) = false := by simpa using hE0
  clear hE hE0 ho
  go_enter Try.func7, Try.ntmps7
  go_wp2_with (first
    | (go_at_call 17
       refine HD.out.mono ?_
       rintro e w1 ⟨hb1, rfl⟩
       have H1 := hid (hb1.alloc hb1.size (po emp 0 (.slice none 0 0)))
       clear hb1)
    | (go_at_call 13
       refine (known_any _).mono ?_
       rintro e w2 ⟨rfl, hb2⟩
       have H2 := hid (below_on H1.out hb2)
       clear hb2))
  go_ret
  exact ⟨rfl, H2.out⟩

theorem app_one {w w5 w7 : World} {ao : Option Addr} {c : Nat} {bs : List Int} {v : Value} (h5 : Below w.heap.size w w5) (ho : w7.ownsRow w5.heap.size 5 1 (.slice ao (0 + bs.length) c) (0 + bs.length) (B8 ([] ++ bs))) (hg : (w5.alloc (.cells #[] 5)).grownBy w7 v.ownBlock) (hv : ∀ k, v.ownBlock = some k → w5.heap.size ≤ k) :
    w7.ownsRow w5.heap.size 5 1 (.slice ao bs.length c) bs.length (B8 bs) ∧ Below w.heap.size w w7 ∧ w5.heap.size ≤ w7.heap.size := by
  have hb : Below w5.heap.size w5 w7 := (below1 w5 _).trans ((Below.refl _ _).grown hg (by simp) hv)
  exact ⟨by simpa using ho, below_on h5 hb, hb.size⟩

theorem app_two {w w5 w7 w8 : World} {ao ao2 : Option Addr} {c c2 : Nat} {bs ms : List Int} (h7 : w7.ownsRow w5.heap.size 5 1 (.slice ao bs.length c) bs.length (B8 bs)) (h7b : Below w.heap.size w w7) (hz : w5.heap.size ≤ w7.heap.size) (h5 : w.heap.size ≤ w5.heap.size)
    (ho : w8.ownsRow w5.heap.size 5 1 (.slice ao2 (bs.length + ms.length) c2) (bs.length + ms.length) (B8 (bs ++ ms))) (hg : w7.grownBy w8 (Value.slice ao bs.length c).ownBlock) :
    w8.ownsRow w5.heap.size 5 1 (.slice ao2 (bs.length + ms.length) c2) (bs.length + ms.length) (B8 (bs ++ ms)) ∧ Below w.heap.size w w8 := by
  have _ := hz
  exact ⟨ho, h7b.grown hg h7b.size (fun k hk => by have := (h7.lt k hk).1; omega)⟩

set_option maxRecDepth 100000 in
set_option maxHeartbeats 8000000 in
theorem form_ok (v : Value) (bs : List Int) (cut : Int) (mv : Value) (ms : List Int) (w : World) (h : Sn w v bs) (ho : Oct bs) (hm : Sn w mv ms) (hmo : Oct ms) (hl : (bs.length : Int) ≤ 65536) (hl2 : (ms.length : Int) ≤ 65536) (nm : List Int) (ar : Int) (xs : List Ins) (hD : decP bs = .ok (nm, ar, xs)) :
    Calls Try.prog 7 #[v, .int .i64 cut, mv] w fun x w' => x = .returned (.bool true) ∧ Below w.heap.size w w' := by
  obtain ⟨hT, hC⟩ := decP_ok bs nm ar xs hD
  obtain ⟨hB, hI⟩ := tkProc_bytes bs ho nm ar xs hT
  have hxl := tkProc_len bs nm ar xs hT
  have hpos := decP_pos bs nm ar xs hD
  have HDD := hid (fun v' bs' W' h' ho' hl' => pdecode_any v' bs' W' h' ho' hl')
  have HD := hid (pdecode_any v bs w h.1 ho (by omega))
  rw [hD] at HD
  unfold DPost at HD
  dsimp only at HD
  obtain ⟨E1, E2, hR⟩ : ∃ R1 R2, procChk (mkStr nm) ar xs = (R1, R2) := ⟨_, _, rfl⟩
  rw [hR] at hC
  dsimp only at hC
  subst hC
  have HC := hid (fun S W hW => pcheck_any (mkStr nm) ar S xs W hW (by omega))
  have HE := hid (fun S W hW => pencode_any (mkStr nm) ar S xs W hW (by omega) hI)
  unfold PEnc at HE
  rw [hR] at HC HE
  rw [hB] at HE
  dsimp only at HC HE
  have HCUT := hid (fun c hc => decP_cut bs ho nm ar xs hD c hc)
  have HMORE := hid (fun hne => decP_more bs ms ho hne nm ar xs hD)
  have HS := hid h
  have HM := hid hm
  have HO := hid (And.intro ho hmo)
  obtain ⟨⟨ao, cc, rfl, -, -⟩, -⟩ := h
  obtain ⟨⟨bo, dd, rfl, -, -⟩, -⟩ := hm
  clear hT hB hI hD hR ho hmo
  go_enter Try.func7, Try.ntmps7
  go_upto_region 10 with (first
    | (go_at_call 17
       refine HD.out.mono ?_
       rintro e w1 ⟨hb1, cb, rfl, hcb, hck, hco⟩
       have H1 := hid (fst_start (nm := mkStr nm) (ar := ar) hb1 hck hco)
       clear hb1 hcb hck hco)
    | (go_at_call 10
       refine (HC.out _ _ H1.out.code).mono ?_
       rintro e w2 ⟨rfl, hb2⟩
       have H2 := hid (H1.out.below hb2)
       obtain ⟨p0, p1, p2, -⟩ := vfacts H2.out.r0
       clear hb2)
    | (go_at_call 14
       refine (HE.out _ _ H2.out.code).mono ?_
       rintro e w3 (⟨h3, -⟩ | ⟨-, g3, rfl, ho3, hg3, hb3⟩)
       · exact absurd rfl h3
       have H3 := hid (And.intro (below_on H2.out.hb hb3) ho3)
       clear hb3 hg3 ho3)
    | (go_at_call 16
       refine (bytes_any _ _ bs bs _ (HS.out.1.below H3.out.1) (sl_of_owns (H3.out.2.owns (B := 0) (Nat.zero_le _) (by unfold maxLen; omega))) (by omega)).mono ?_
       rintro e w4 ⟨hd4, rfl⟩
       rw [decide_eq_true rfl]
       have H4 := hid (below_on H3.out.1 hd4.below)
       clear hd4))
  clear H1 H2 H3 HC HE HD p0 p1 p2
  have htb : -(bs.length : Int) < cut.tmod bs.length ∧ cut.tmod bs.length < bs.length := by
    have h1 : (cut.tmod bs.length).natAbs < bs.length := by
      rw [Int.natAbs_tmod]
      exact Nat.mod_lt _ hpos
    omega
  have HTB := hid htb
  have hpos' : (0 : Int) < (bs.length : Int) := by omega
  clear htb
  by_cases hneg : cut.tmod bs.length < 0
  · obtain ⟨cN, hwr, hcN⟩ : ∃ c : Nat, wrap64 (cut.tmod bs.length + bs.length) = c ∧ c < bs.length := by
      have := HTB.out
      refine ⟨(cut.tmod bs.length + bs.length).toNat, ?_, by omega⟩
      unfold wrap64
      omega
    have HWR := hid hwr
    clear hwr
    go_upto_region 13 with fail
    rw [HWR.out]
    obtain ⟨rv, hrv, hsl, -⟩ := sl_to (HS.out.1.below H4.out) cN (by omega)
    obtain ⟨gv, hgv⟩ : ∃ gv, gv = Value.slice ao bs.length cc := ⟨_, rfl⟩
    rw [← hgv] at hrv HS ⊢
    clear hgv
    obtain ⟨E, hE, hE0⟩ := HCUT.out cN hcN
    have HD2 := hid (fun W hW => HDD.out rv (bs.take cN) W hW (HO.out.1.take cN) (by rw [List.length_take]; omega))
    rw [hE] at HD2
    unfold DPost at HD2
    dsimp only at HD2
    have he2 : (E == 0) = false := by simpa using hE0
    have HSL := hid hsl
    clear hsl hE hE0
    by_cases hms : ms = []
    · subst hms
      go_wp2_with (first
        | (go_at_call 17
           refine (HD2.out _ HSL.out).mono ?_
           rintro e w5 ⟨hb5, rfl⟩
           have H5 := hid (below_on H4.out hb5)
           clear hb5)
        | (go_at_call 13
           refine (known_any _).mono ?_
           rintro e w6 ⟨rfl, hb6⟩
           have H6 := hid (below_on H5.out hb6)
           clear hb6))
      go_ret
      exact ⟨rfl, H6.out⟩
    · have hmp : (0 : Int) < (ms.length : Int) := by have := List.length_pos_iff.2 hms; omega
      have HD3 := hid (fun v' W hW => HDD.out v' (bs ++ ms) W hW (fun x hx => (List.mem_append.1 hx).elim (HO.out.1 x) (HO.out.2 x)) (by rw [List.length_append]; omega))
      rw [HMORE.out hms] at HD3
      unfold DPost at HD3
      dsimp only at HD3
      clear hms
      go_wp2_with (first
        | (go_at_call 17
           first
           | ((with_reducible show Calls _ _ _ w4 _)
              refine (HD2.out _ HSL.out).mono ?_
              rintro e w5 ⟨hb5, rfl⟩
              have H5 := hid (below_on H4.out hb5)
              clear hb5)
           | (refine (HD3.out _ _ (sl_of_owns H8.out.1)).mono ?_
              rintro e w9 ⟨hb9, rfl⟩
              have H9 := hid (below_on H8.out.2 hb9)
              clear hb9))
        | (at_builtin
           (with_reducible show wpList _ _ _ _ _ (World.alloc w5 _))
           go_loud (
           refine wpList_append_sn _ rfl _ _ rfl w5.heap.size _ 0 [] rfl ((show Own (w5.alloc (.cells #[] 5)) w5.heap.size [] from heap_alloc_new w5 _).owns (Nat.le_refl _) (by decide)) _ bs rfl ((HS.out.below H5.out).below (below1 w5 _)) (by omega) (by simp) ?_
           intro ao1 c1 w7 hown hgrow
           have H7 := hid (app_one H5.out hown hgrow (by intro k hk; simp [Value.ownBlock, Act.eval] at hk; omega))
           clear hown hgrow))
        | (at_builtin
           go_loud (
           refine wpList_append_sn _ rfl _ _ rfl w5.heap.size _ bs.length bs rfl H7.out.1 _ ms rfl (HM.out.below H7.out.2.1) (by omega) H7.out.2.2 ?_
           intro ao2 c2 w8 hown hgrow
           have H8 := hid (app_two H7.out.1 H7.out.2.1 H7.out.2.2 H5.out.size hown hgrow)
           clear hown hgrow))
        | (go_at_call 13
           refine (known_any _).mono ?_
           rintro e w10 ⟨rfl, hb10⟩
           have H10 := hid (below_on H9.out hb10)
           clear hb10))
      go_ret
      exact ⟨rfl, H10.out⟩
  · obtain ⟨cN, hwr, hcN⟩ : ∃ c : Nat, cut.tmod bs.length = c ∧ c < bs.length := by
      have := HTB.out
      exact ⟨(cut.tmod bs.length).toNat, by omega, by omega⟩
    have HWR := hid hwr
    clear hwr
    go_upto_region 13 with fail
    rw [HWR.out]
    clear hneg
    obtain ⟨rv, hrv, hsl, -⟩ := sl_to (HS.out.1.below H4.out) cN (by omega)
    obtain ⟨gv, hgv⟩ : ∃ gv, gv = Value.slice ao bs.length cc := ⟨_, rfl⟩
    rw [← hgv] at hrv HS ⊢
    clear hgv
    obtain ⟨E, hE, hE0⟩ := HCUT.out cN hcN
    have HD2 := hid (fun W hW => HDD.out rv (bs.take cN) W hW (HO.out.1.take cN) (by rw [List.length_take]; omega))
    rw [hE] at HD2
    unfold DPost at HD2
    dsimp only at HD2
    have he2 : (E == 0) = false := by simpa using hE0
    have HSL := hid hsl
    clear hsl hE hE0
    by_cases hms : ms = []
    · subst hms
      go_wp2_with (first
        | (go_at_call 17
           refine (HD2.out _ HSL.out).mono ?_
           rintro e w5 ⟨hb5, rfl⟩
           have H5 := hid (below_on H4.out hb5)
           clear hb5)
        | (go_at_call 13
           refine (known_any _).mono ?_
           rintro e w6 ⟨rfl, hb6⟩
           have H6 := hid (below_on H5.out hb6)
           clear hb6))
      go_ret
      exact ⟨rfl, H6.out⟩
    · have hmp : (0 : Int) < (ms.length : Int) := by have := List.length_pos_iff.2 hms; omega
      have HD3 := hid (fun v' W hW => HDD.out v' (bs ++ ms) W hW (fun x hx => (List.mem_append.1 hx).elim (HO.out.1 x) (HO.out.2 x)) (by rw [List.length_append]; omega))
      rw [HMORE.out hms] at HD3
      unfold DPost at HD3
      dsimp only at HD3
      clear hms
      go_wp2_with (first
        | (go_at_call 17
           first
           | ((with_reducible show Calls _ _ _ w4 _)
              refine (HD2.out _ HSL.out).mono ?_
              rintro e w5 ⟨hb5, rfl⟩
              have H5 := hid (below_on H4.out hb5)
              clear hb5)
           | (refine (HD3.out _ _ (sl_of_owns H8.out.1)).mono ?_
              rintro e w9 ⟨hb9, rfl⟩
              have H9 := hid (below_on H8.out.2 hb9)
              clear hb9))
        | (at_builtin
           (with_reducible show wpList _ _ _ _ _ (World.alloc w5 _))
           go_loud (
           refine wpList_append_sn _ rfl _ _ rfl w5.heap.size _ 0 [] rfl ((show Own (w5.alloc (.cells #[] 5)) w5.heap.size [] from heap_alloc_new w5 _).owns (Nat.le_refl _) (by decide)) _ bs rfl ((HS.out.below H5.out).below (below1 w5 _)) (by omega) (by simp) ?_
           intro ao1 c1 w7 hown hgrow
           have H7 := hid (app_one H5.out hown hgrow (by intro k hk; simp [Value.ownBlock, Act.eval] at hk; omega))
           clear hown hgrow))
        | (at_builtin
           go_loud (
           refine wpList_append_sn _ rfl _ _ rfl w5.heap.size _ bs.length bs rfl H7.out.1 _ ms rfl (HM.out.below H7.out.2.1) (by omega) H7.out.2.2 ?_
           intro ao2 c2 w8 hown hgrow
           have H8 := hid (app_two H7.out.1 H7.out.2.1 H7.out.2.2 H5.out.size hown hgrow)
           clear hown hgrow))
        | (go_at_call 13
           refine (known_any _).mono ?_
           rintro e w10 ⟨rfl, hb10⟩
           have H10 := hid (below_on H9.out hb10)
           clear hb10))
      go_ret
      exact ⟨rfl, H10.out⟩

end Go.Proofs.Ytljfmbjibjoiiaa

namespace Go.Proofs.Ytljfmbjibjoiiaa
open Go.RowKit

theorem Try.cells5 : Try.prog.cellsOf 5 = 1 := by kernel_rfl

/-- An argument of bytes. -/
theorem bytes_of_trod {H : Type} {enc : TypeId × Value → H} {W : World} {base : Nat} {held : Bool} {ao : Option Addr} {len cap : Nat} {d : DataW H} {p : List MemPlace}
    (h : DataW.Trod enc Try.prog W base (fun _ => true) held 38 (.slice ao len cap) d p) : ∃ bs, Sn W (.slice ao len cap) bs ∧ Oct bs ∧ bs.length ≤ 9223372036854775807 := by
  obtain ⟨fuel, hf⟩ := h
  rcases Go.Deep.open_slice Try.underlying38 hf with ⟨hcs, _⟩ | ⟨a, len', cap', m, n, D, Pl, hcs, _, hl, hm, hmm, _, hx⟩
  · simp [Value.cells] at hcs
    obtain ⟨rfl, rfl, rfl⟩ := hcs
    exact ⟨[], sn_nil _, (fun x hx => nomatch hx), by simp⟩
  · simp [Value.cells] at hcs
    obtain ⟨rfl, rfl, rfl⟩ := hcs
    simp only [if_true] at hmm
    obtain rfl : cap = m := hmm.symm
    rw [Try.cells5] at hx
    have key : ∀ i, i < len → ∃ y : Int, (0 ≤ y ∧ y < 256) ∧ W.cell? ((a.add (i * 1)).add 0) = some (.int .u8 y) := by
      intro i hi
      obtain ⟨cs, h1, h2⟩ := hx i (by omega)
      obtain ⟨y, e0, _, w0⟩ := DataW.trod_int Try.underlying5 h2
      subst e0
      have b0 := bounds_u8 w0
      exact ⟨y, ⟨b0.1, by omega⟩, (World.cells?_some h1).2.2 0 (by omega)⟩
    obtain ⟨F, hF⟩ := Go.Deep.choose_lt key
    unfold maxLen at hm
    refine ⟨(List.range len).map F, ⟨⟨some a, cap, by simp, by simpa using hl, ?_⟩, .inr ⟨_, _, _, rfl⟩⟩, ?_, by simp; omega⟩
    · intro hne
      have hlen : 0 < len := by
        rcases Nat.eq_zero_or_pos len with h | h
        · subst h; simp at hne
        · exact h
      have h00 := (hF 0 hlen).2
      obtain ⟨b, off, rfl⟩ : ∃ b off, a = ⟨b, off, none⟩ := by
        obtain ⟨b, off, spot⟩ := a
        have hspot : spot = none := by simpa [Addr.add] using World.cell?_spot h00
        subst hspot
        exact ⟨b, off, rfl⟩
      refine ⟨b, off, rfl, ?_⟩
      intro j x hj
      rw [List.getElem?_map, Option.map_eq_some_iff] at hj
      obtain ⟨i, hi, rfl⟩ := hj
      have hij : i = j ∧ j < len := by
        rw [List.getElem?_eq_some_iff] at hi
        obtain ⟨q1, q2⟩ := hi
        simp at q1 q2
        exact ⟨q2.symm, q1⟩
      obtain ⟨rfl, hi2⟩ := hij
      have k := (hF i hi2).2
      rw [add_lit, add_lit] at k
      simpa using k
    · intro x hx2
      simp at hx2
      obtain ⟨i, hi, rfl⟩ := hx2
      exact (hF i hi).1

end Go.Proofs.Ytljfmbjibjoiiaa

namespace Go.Proofs.Ytljfmbjibjoiiaa
open Go.ChangeShapes Go.WideShapes Go.ChangeAt Go.RowKit

set_option maxRecDepth 100000 in
set_option maxHeartbeats 1600000 in
theorem form_any (v : Value) (bs : List Int) (cut : Int) (mv : Value) (ms : List Int) (w : World) (h : Sn w v bs) (ho : Oct bs) (hm : Sn w mv ms) (hmo : Oct ms) :
    Calls Try.prog 7 #[v, .int .i64 cut, mv] w fun x w' => x = .returned (.bool true) ∧ Below w.heap.size w w' := by
  by_cases hl : (bs.length : Int) ≤ 65536
  · by_cases hl2 : (ms.length : Int) ≤ 65536
    · cases hD : decP bs with
      | error E => exact form_err v bs cut mv ms w h ho hm hl hl2 E hD
      | ok r =>
        obtain ⟨nm, ar, xs⟩ := r
        exact form_ok v bs cut mv ms w h ho hm hmo hl hl2 nm ar xs hD
    · have hl3 : (65536 : Int) < (ms.length : Int) := by omega
      obtain ⟨⟨ao, cc, rfl, -, -⟩, -⟩ := h
      obtain ⟨⟨bo, dd, rfl, -, -⟩, -⟩ := hm
      go_enter Try.func7, Try.ntmps7
      go_wp2
      go_ret
      exact ⟨rfl, Below.refl _ _⟩
  · have hl3 : (65536 : Int) < (bs.length : Int) := by omega
    obtain ⟨⟨ao, cc, rfl, -, -⟩, -⟩ := h
    obtain ⟨⟨bo, dd, rfl, -, -⟩, -⟩ := hm
    go_enter Try.func7, Try.ntmps7
    go_wp2
    go_ret
    exact ⟨rfl, Below.refl _ _⟩

theorem Try.own : ownKnob Try.prog.godebug = none := by kernel_rfl
theorem Try.laidOut : laidOutB Try.prog = true := by kernel_rfl

set_option maxRecDepth 100000 in
theorem form_lifted (os : Os) (started : os.Started) (H : Type) (enc : TypeId × Value → H) :
    ReturnsInHanded {} Try.checked os 7 .any (Rows.procFormSpec.pre6 enc Try.prog Try.f7 Rows.procFormRow.domain false) (Rows.procFormSpec.post enc Try.prog Try.f7 false true false false) := by
  refine returnsInHanded_of_change (C := Try.checked) Try.own started (by kernel_rfl) Try.func7
    (ChangeSpec.witness6 (enc := enc) (C := Try.checked) false ⟨#[], #[.slice none 0 0, .int .i64 0, .slice none 0 0], []⟩ 8 (by kernel_rfl) (by kernel_rfl) (by kernel_rfl) (by kernel_rfl)) ?_
  intro W base args ds gs before hval0 hW hcnd _
  have hval : ∀ (j : Nat) t v, Try.f7.params[j]? = some t → args[j]? = some v → Value.okWide Try.prog W .any base t v := hval0
  have hW' := hW
  obtain ⟨p, q, hA0, hV, rfl, hfz, hnd⟩ := hW
  have hA : DataW.TrodAll enc Try.prog W 0 (fun _ => true) true Try.f7.params.toList args.toList ds p := hA0
  rw [Try.params7] at hA hval
  obtain ⟨v0, vs0, d0, ds0, p0, q0, hargs, rfl, rfl, h0, r0⟩ := trodAll_cons hA
  obtain ⟨v1, vs1, d1, ds1, p1, q1, rfl, rfl, rfl, h1, r1⟩ := trodAll_cons r0
  obtain ⟨v2, vs2, d2, ds2, p2, q2, rfl, rfl, rfl, h2, r2⟩ := trodAll_cons r1
  obtain ⟨rfl, rfl, rfl⟩ := trodAll_nil r2
  obtain rfl : args = #[v0, v1, v2] := by cases args; simp_all
  obtain ⟨rfl, rfl⟩ := trodVars_none hV
  obtain ⟨a0, len0, cap0, rfl⟩ := okWide_slice Try.underlying38 (hval 0 38 v0 rfl rfl)
  obtain ⟨a2, len2, cap2, rfl⟩ := okWide_slice Try.underlying38 (hval 2 38 v2 rfl rfl)
  have k0 := h0
  have k2 := h2
  have lt0 : ∀ x ∈ p0, x.block < W.heap.size := by obtain ⟨m, hm⟩ := k0; exact DataW.trod_lt m _ _ _ hm
  have lt2 : ∀ x ∈ p2, x.block < W.heap.size := by obtain ⟨m, hm⟩ := k2; exact DataW.trod_lt m _ _ _ hm
  obtain ⟨bs, hbs, hoct, _⟩ := bytes_of_trod h0
  obtain ⟨ms, hms, hmoct, _⟩ := bytes_of_trod h2
  obtain ⟨a1, rfl, rfl, rfl, w1⟩ := open_int Try.underlying3 (hval 1 3 v1 rfl rfl) h1
  clear hA0 hval0
  refine (form_any _ bs a1 _ ms W hbs hoct hms hmoct).mono fun e W' ⟨he, bel⟩ => ?_
  subst he
  exact ⟨_, rfl, _, _, _, [], _, [], hW', trodAll_mk1 (shut_bool Try.underlying4 _), (trodAll_cons_mk (Below.trod Try.laidOut (by kernel_rfl) (of_decide_eq_true (by kernel_rfl)) k0 bel lt0) (trodAll_cons_mk (shut_int Try.underlying3 w1) (trodAll_cons_mk (Below.trod Try.laidOut (by kernel_rfl) (of_decide_eq_true (by kernel_rfl)) k2 bel lt2) trodAll_mk0))), rfl, bel.frame _, fun h => by cases h⟩

theorem procForm_holds : Rows.ProcFormSaid :=
  OpenClaim.holds_of_wide 7 Try.f7 rfl rfl rfl rfl rfl rfl rfl ⟨rfl, rfl, rfl, rfl, rfl⟩ rfl rfl rfl rfl rfl (by kernel_rfl) Try.func7 (by kernel_rfl)
    (of_decide_eq_true (by kernel_rfl)) (by unfold Func.isWrapper; first | (rw [if_pos (by decide +kernel)]; kernel_rfl) | (rw [if_neg (by decide +kernel)]; exact ⟨rfl, rfl⟩))
    (fun os started H enc _ => form_lifted os started H enc)

#print axioms procForm_holds
end Go.Proofs.Ytljfmbjibjoiiaa
