import Derived.Test.YtljfmbjibjoiiaaK14
import Derived.Test.YtljfmbjibjoiiaaK20
import Derived.Test.YtljfmbjibjoiiaaK17
import Derived.Deep.Cut
import Derived.Test.YtljfmbjibjoiiaaK19
import Derived.Test.YtljfmbjibjoiiaaK18
namespace Go.Proofs.Ytljfmbjibjoiiaa
open Go.RowKit Go.Lib

theorem tkFs_err (bs : List Int) : ∀ (fs : List Fk) (x : Ins) (a : Nat) (E : Int), tkFs bs fs x a = .error E → E ≠ 0 := by
  intro fs
  induction fs with
  | nil => intro x a E h; rw [tkFs] at h; cases h
  | cons f fs ih =>
    intro x a E h
    rw [tkFs] at h
    by_cases h0 : (tkf f bs a).2.2 = 0
    · rw [if_pos h0] at h; exact ih _ _ _ h
    · rw [if_neg h0] at h; injection h with h; rw [← h]; exact h0

theorem tkVal_err (bs : List Int) (most : Int) (a : Nat) (E : Int) (h : tkVal bs most a = .error E) : E ≠ 0 := by
  unfold tkVal at h
  split at h
  · split at h
    · cases h
    · rename_i h0; injection h with h; rw [← h]; exact h0
  · rename_i h0; injection h with h; rw [← h]; exact h0

theorem tkIns_err (bs : List Int) (most : Int) (a : Nat) (E : Int) (h : tkIns bs most a = .error E) : E ≠ 0 := by
  unfold tkIns at h
  split at h
  · split at h
    · cases hT : tkFs bs (opF (opN (takeZ 0 1 bs a 0).1.1)) (zIns (takeZ 0 1 bs a 0).1.1) (takeZ 0 1 bs a 0).2.1 with
      | error E2 =>
        rw [hT] at h
        have h : E2 = E := by simpa [tkAfter] using h
        rw [← h]
        exact tkFs_err bs _ _ _ _ hT
      | ok r =>
        obtain ⟨x, a2⟩ := r
        rw [hT] at h
        unfold tkAfter at h
        dsimp only at h
        split at h
        · cases hV : tkVal bs most a2 with
          | error E2 =>
            rw [hV] at h
            have h : E2 = E := by simpa using h
            rw [← h]
            exact tkVal_err bs most a2 E2 hV
          | ok r => rw [hV] at h; cases h
        · cases h
    · injection h with h; rw [← h]; decide
  · rename_i h0; injection h with h; rw [← h]; exact h0

theorem tkCode_err (bs : List Int) (most : Int) : ∀ (n a : Nat) (E : Int), tkCode bs most n a = .error E → E ≠ 0 := by
  intro n
  induction n with
  | zero => intro a E h; rw [tkCode] at h; cases h
  | succ n ih =>
    intro a E h
    rw [tkCode] at h
    cases hI : tkIns bs most a with
    | error E2 =>
      rw [hI] at h
      have h : E2 = E := by simpa using h
      rw [← h]
      exact tkIns_err bs most a E2 hI
    | ok r =>
      obtain ⟨x, a2⟩ := r
      rw [hI] at h
      dsimp only at h
      cases hC : tkCode bs most n a2 with
      | error E2 =>
        rw [hC] at h
        have h : E2 = E := by simpa using h
        rw [← h]
        exact ih a2 E2 hC
      | ok r => rw [hC] at h; cases h

theorem tkProc_err (bs : List Int) (E : Int) (h : tkProc bs = .error E) : E ≠ 0 := by
  unfold tkProc at h
  split at h
  · split at h
    · unfold tkEnd at h
      split at h
      · rename_i E2 hC
        have h : E2 = E := by simpa using h
        rw [← h]
        exact tkCode_err _ _ _ _ _ hC
      · split at h
        · cases h
        · rename_i h0; injection h with h; rw [← h]; exact h0
    · injection h with h; rw [← h]; decide
  · rename_i h0; injection h with h; rw [← h]; exact h0

theorem decP_err (bs : List Int) (E : Int) (h : decP bs = .error E) : E ≠ 0 := by
  unfold decP at h
  cases hT : tkProc bs with
  | error E2 =>
    rw [hT] at h
    have h : E2 = E := by simpa using h
    rw [← h]
    exact tkProc_err bs E2 hT
  | ok r =>
    obtain ⟨nm, ar, xs⟩ := r
    rw [hT] at h
    dsimp only at h
    split at h
    · cases h
    · rename_i h0; injection h with h; rw [← h]; exact h0

theorem decP_ok (bs : List Int) (nm : List Int) (ar : Int) (xs : List Ins) (h : decP bs = .ok (nm, ar, xs)) : tkProc bs = .ok (nm, ar, xs) ∧ (procChk (mkStr nm) ar xs).2 = 0 := by
  unfold decP at h
  cases hT : tkProc bs with
  | error E2 => rw [hT] at h; cases h
  | ok r =>
    obtain ⟨nm', ar', xs'⟩ := r
    rw [hT] at h
    dsimp only at h
    split at h
    · rename_i h0
      injection h with h
      injection h with h1 h
      injection h with h2 h3
      subst h1 h2 h3
      exact ⟨rfl, h0⟩
    · cases h

/-- Another procedure's beginning is none. -/
theorem decP_cut (bs : List Int) (ho : Oct bs) (nm : List Int) (ar : Int) (xs : List Ins) (h : decP bs = .ok (nm, ar, xs)) (c : Nat) (hc : c < bs.length) : ∃ E, decP (bs.take c) = .error E ∧ E ≠ 0 := by
  cases hD : decP (bs.take c) with
  | error E => exact ⟨E, rfl, decP_err _ _ hD⟩
  | ok r =>
    obtain ⟨nm', ar', xs'⟩ := r
    exfalso
    have h1 := (decP_ok _ _ _ _ hD).1
    have h2 := tkProc_more (bs.take c) (bs.drop c) (ho.take c) (by intro e; have := congrArg List.length e; simp at this; omega) _ _ _ h1
    rw [List.take_append_drop, (decP_ok _ _ _ _ h).1] at h2
    cases h2

theorem decP_more (bs m : List Int) (ho : Oct bs) (hm : m ≠ []) (nm : List Int) (ar : Int) (xs : List Ins) (h : decP bs = .ok (nm, ar, xs)) : decP (bs ++ m) = .error 3 := by
  unfold decP
  rw [tkProc_more bs m ho hm nm ar xs (decP_ok _ _ _ _ h).1]

theorem decP_pos (bs : List Int) (nm : List Int) (ar : Int) (xs : List Ins) (h : decP bs = .ok (nm, ar, xs)) : 0 < bs.length := by
  cases bs with
  | nil =>
    have h1 := (decP_ok _ _ _ _ h).1
    have e : tkProc [] = .error 2 := by rfl
    rw [e] at h1
    cases h1
  | cons b bs => simp

/-- Where the law is behind Decode. -/
structure Fst (w W : World) (r : Nat) (nm : ByteArray) (ar : Int) (xs : List Ins) (cb : Nat) : Prop where
  r0 : W.heap[r]? = some (po nm ar (.slice (some ⟨cb, 0, none⟩) xs.length xs.length))
  bk : ∃ cs, W.heap[cb]? = some (.cells cs 28 (0, 0))
  co : ∀ (j : Nat) (x : Ins), xs[j]? = some x → InsAt W cb (j * 8) x
  hb : Below w.heap.size w W

theorem Fst.below {w W W' : World} {r : Nat} {nm : ByteArray} {ar : Int} {xs : List Ins} {cb : Nat} (h : Fst w W r nm ar xs cb) (hb : Below W.heap.size W W') : Fst w W' r nm ar xs cb := by
  obtain ⟨cs, hc⟩ := h.bk
  have hl := hb.block _ (lt_of hc)
  exact ⟨blk_of hb h.r0 (lt_of h.r0), ⟨cs, hl.trans hc⟩, fun j x hx => (h.co j x hx).same hl, below_on h.hb hb⟩

theorem Fst.code {w W : World} {r : Nat} {nm : ByteArray} {ar : Int} {xs : List Ins} {cb : Nat} (h : Fst w W r nm ar xs cb) : CodeAt W (.slice (some ⟨cb, 0, none⟩) xs.length xs.length) xs :=
  ⟨_, _, rfl, Nat.le_refl _, fun _ => ⟨cb, 0, rfl, fun j x hx => by rw [Nat.zero_add]; exact h.co j x hx⟩⟩

theorem fst_start {w w1 : World} {nm : ByteArray} {ar : Int} {xs : List Ins} {cb : Nat} (hb : Below w.heap.size w w1) (bk : ∃ cs, w1.heap[cb]? = some (.cells cs 28 (0, 0))) (co : ∀ (j : Nat) (x : Ins), xs[j]? = some x → InsAt w1 cb (j * 8) x) :
    Fst w (w1.alloc (po nm ar (.slice (some ⟨cb, 0, none⟩) xs.length xs.length))) w1.heap.size nm ar xs cb := by
  obtain ⟨cs, hc⟩ := bk
  have hl : ((w1.alloc (po nm ar (.slice (some ⟨cb, 0, none⟩) xs.length xs.length))).heap[cb]?) = w1.heap[cb]? := Below.heap_alloc _ _ _ (lt_of hc)
  exact ⟨heap_alloc_new w1 _, ⟨cs, hl.trans hc⟩, fun j x hx => (co j x hx).same hl, hb.alloc hb.size _⟩

set_option maxRecDepth 100000 in
set_option maxHeartbeats 4000000 in
theorem form_err (v : Value) (bs : List Int) (cut : Int) (mv : Value) (ms : List Int) (w : World) (h : Sn w v bs) (ho : Oct bs) (hm : Sn w mv ms) (hl : (bs.length : Int) ≤ 65536) (hl2 : (ms.length : Int) ≤ 65536) (E : Int) (hE : decP bs = .error E) :
    Calls Try.prog 7 #[v, .int .i64 cut, mv] w fun x w' => x = .returned (.bool true) ∧ Below w.heap.size w w' := by
  have hE0 := decP_err bs E hE
  have HD := hid (pdecode_any v bs w h.1 ho (by omega))
  rw [hE] at HD
  unfold DPost at HD
  dsimp only at HD
  obtain ⟨⟨ao, cc, rfl, -, -⟩, -⟩ := h
  obtain ⟨⟨bo, dd, rfl, -, -⟩, -⟩ := hm
  have he2 : (E == 0) = false := by simpa using hE0
  clear hE hE0 ho
  go_enter Try.func7, Try.ntmps7
  go_wp2_with (first
    | (go_at_call 17
       refine HD.out.mono ?_
       rintro e w1 ⟨hb1, rfl⟩
       have H1 := hid (hb1.alloc hb1.size (po emp 0 (.slice none 0 0)))
       clear hb1)
    | (go_at_call 13
       refine (known_any _).mono ?_
       rintro e w2 ⟨rfl, hb2⟩
       have H2 := hid (below_on H1.out hb2)
       clear hb2))
  go_ret
  exact ⟨rfl, H2.out⟩

theorem app_one {w w5 w7 : World} {ao : Option Addr} {c : Nat} {bs : List Int} {v : Value} (h5 : Below w.heap.size w w5) (ho : w7.ownsRow w5.heap.size 5 1 (.slice ao (0 + bs.length) c) (0 + bs.length) (B8 ([] ++ bs))) (hg : (w5.alloc (.cells #[] 5)).grownBy w7 v.ownBlock) (hv : ∀ k, v.ownBlock = some k → w5.heap.size ≤ k) :
    w7.ownsRow w5.heap.size 5 1 (.slice ao bs.length c) bs.length (B8 bs) ∧ Below w.heap.size w w7 ∧ w5.heap.size ≤ w7.heap.size := by
  have hb : Below w5.heap.size w5 w7 := (below1 w5 _).trans ((Below.refl _ _).grown hg (by simp) hv)
  exact ⟨by simpa using ho, below_on h5 hb, hb.size⟩

theorem app_two {w w5 w7 w8 : World} {ao ao2 : Option Addr} {c c2 : Nat} {bs ms : List Int} (h7 : w7.ownsRow w5.heap.size 5 1 (.slice ao bs.length c) bs.length (B8 bs)) (h7b : Below w.heap.size w w7) (hz : w5.heap.size ≤ w7.heap.size) (h5 : w.heap.size ≤ w5.heap.size)
    (ho : w8.ownsRow w5.heap.size 5 1 (.slice ao2 (bs.length + ms.length) c2) (bs.length + ms.length) (B8 (bs ++ ms))) (hg : w7.grownBy w8 (Value.slice ao bs.length c).ownBlock) :
    w8.ownsRow w5.heap.size 5 1 (.slice ao2 (bs.length + ms.length) c2) (bs.length + ms.length) (B8 (bs ++ ms)) ∧ Below w.heap.size w w8 := by
  have _ := hz
  exact ⟨ho, h7b.grown hg h7b.size (fun k hk => by have := (h7.lt k hk).1; omega)⟩

set_option maxRecDepth 100000 in
set_option maxHeartbeats 8000000 in
theorem form_ok (v : Value) (bs : List Int) (cut : Int) (mv : Value) (ms : List Int) (w : World) (h : Sn w v bs) (ho : Oct bs) (hm : Sn w mv ms) (hmo : Oct ms) (hl : (bs.length : Int) ≤ 65536) (hl2 : (ms.length : Int) ≤ 65536) (nm : List Int) (ar : Int) (xs : List Ins) (hD : decP bs = .ok (nm, ar, xs)) :
    Calls Try.prog 7 #[v, .int .i64 cut, mv] w fun x w' => x = .returned (.bool true) ∧ Below w.heap.size w w' := by
  obtain ⟨hT, hC⟩ := decP_ok bs nm ar xs hD
  obtain ⟨hB, hI⟩ := tkProc_bytes bs ho nm ar xs hT
  have hxl := tkProc_len bs nm ar xs hT
  have hpos := decP_pos bs nm ar xs hD
  have HDD := hid (fun v' bs' W' h' ho' hl' => pdecode_any v' bs' W' h' ho' hl')
  have HD := hid (pdecode_any v bs w h.1 ho (by omega))
  rw [hD] at HD
  unfold DPost at HD
  dsimp only at HD
  obtain ⟨E1, E2, hR⟩ : ∃ R1 R2, procChk (mkStr nm) ar xs = (R1, R2) := ⟨_, _, rfl⟩
  rw [hR] at hC
  dsimp only at hC
  subst hC
  have HC := hid (fun S W hW => pcheck_any (mkStr nm) ar S xs W hW (by omega))
  have HE := hid (fun S W hW => pencode_any (mkStr nm) ar S xs W hW (by omega) hI)
  unfold PEnc at HE
  rw [hR] at HC HE
  rw [hB] at HE
  dsimp only at HC HE
  have HCUT := hid (fun c hc => decP_cut bs ho nm ar xs hD c hc)
  have HMORE := hid (fun hne => decP_more bs ms ho hne nm ar xs hD)
  have HS := hid h
  have HM := hid hm
  have HO := hid (And.intro ho hmo)
  obtain ⟨⟨ao, cc, rfl, -, -⟩, -⟩ := h
  obtain ⟨⟨bo, dd, rfl, -, -⟩, -⟩ := hm
  clear hT hB hI hD hR ho hmo
  go_enter Try.func7, Try.ntmps7
  go_upto_region 10 with (first
    | (go_at_call 17
       refine HD.out.mono ?_
       rintro e w1 ⟨hb1, cb, rfl, hcb, hck, hco⟩
       have H1 := hid (fst_start (nm := mkStr nm) (ar := ar) hb1 hck hco)
       clear hb1 hcb hck hco)
    | (go_at_call 10
       refine (HC.out _ _ H1.out.code).mono ?_
       rintro e w2 ⟨rfl, hb2⟩
       have H2 := hid (H1.out.below hb2)
       obtain ⟨p0, p1, p2, -⟩ := vfacts H2.out.r0
       clear hb2)
    | (go_at_call 14
       refine (HE.out _ _ H2.out.code).mono ?_
       rintro e w3 (⟨h3, -⟩ | ⟨-, g3, rfl, ho3, hg3, hb3⟩)
       · exact absurd rfl h3
       have H3 := hid (And.intro (below_on H2.out.hb hb3) ho3)
       clear hb3 hg3 ho3)
    | (go_at_call 16
       refine (bytes_any _ _ bs bs _ (HS.out.1.below H3.out.1) (sl_of_owns (H3.out.2.owns (B := 0) (Nat.zero_le _) (by unfold maxLen; omega))) (by omega)).mono ?_
       rintro e w4 ⟨hd4, rfl⟩
       rw [decide_eq_true rfl]
       have H4 := hid (below_on H3.out.1 hd4.below)
       clear hd4))
  clear H1 H2 H3 HC HE HD p0 p1 p2
  have htb : -(bs.length : Int) < cut.tmod bs.length ∧ cut.tmod bs.length < bs.length := by
    have h1 : (cut.tmod bs.length).natAbs < bs.length := by
      rw [Int.natAbs_tmod]
      exact Nat.mod_lt _ hpos
    omega
  have HTB := hid htb
  have hpos' : (0 : Int) < (bs.length : Int) := by omega
  clear htb
  by_cases hneg : cut.tmod bs.length < 0
  · obtain ⟨cN, hwr, hcN⟩ : ∃ c : Nat, wrap64 (cut.tmod bs.length + bs.length) = c ∧ c < bs.length := by
      have := HTB.out
      refine ⟨(cut.tmod bs.length + bs.length).toNat, ?_, by omega⟩
      unfold wrap64
      omega
    have HWR := hid hwr
    clear hwr
    go_upto_region 13 with fail
    rw [HWR.out]
    obtain ⟨rv, hrv, hsl, -⟩ := sl_to (HS.out.1.below H4.out) cN (by omega)
    obtain ⟨gv, hgv⟩ : ∃ gv, gv = Value.slice ao bs.length cc := ⟨_, rfl⟩
    rw [← hgv] at hrv HS ⊢
    clear hgv
    obtain ⟨E, hE, hE0⟩ := HCUT.out cN hcN
    have HD2 := hid (fun W hW => HDD.out rv (bs.take cN) W hW (HO.out.1.take cN) (by rw [List.length_take]; omega))
    rw [hE] at HD2
    unfold DPost at HD2
    dsimp only at HD2
    have he2 : (E == 0) = false := by simpa using hE0
    have HSL := hid hsl
    clear hsl hE hE0
    by_cases hms : ms = []
    · subst hms
      go_wp2_with (first
        | (go_at_call 17
           refine (HD2.out _ HSL.out).mono ?_
           rintro e w5 ⟨hb5, rfl⟩
           have H5 := hid (below_on H4.out hb5)
           clear hb5)
        | (go_at_call 13
           refine (known_any _).mono ?_
           rintro e w6 ⟨rfl, hb6⟩
           have H6 := hid (below_on H5.out hb6)
           clear hb6))
      go_ret
      exact ⟨rfl, H6.out⟩
    · have hmp : (0 : Int) < (ms.length : Int) := by have := List.length_pos_iff.2 hms; omega
      have HD3 := hid (fun v' W hW => HDD.out v' (bs ++ ms) W hW (fun x hx => (List.mem_append.1 hx).elim (HO.out.1 x) (HO.out.2 x)) (by rw [List.length_append]; omega))
      rw [HMORE.out hms] at HD3
      unfold DPost at HD3
      dsimp only at HD3
      clear hms
      go_wp2_with (first
        | (go_at_call 17
           first
           | ((with_reducible show Calls _ _ _ w4 _)
              refine (HD2.out _ HSL.out).mono ?_
              rintro e w5 ⟨hb5, rfl⟩
              have H5 := hid (below_on H4.out hb5)
              clear hb5)
           | (refine (HD3.out _ _ (sl_of_owns H8.out.1)).mono ?_
              rintro e w9 ⟨hb9, rfl⟩
              have H9 := hid (below_on H8.out.2 hb9)
              clear hb9))
        | (at_builtin
           (with_reducible show wpList _ _ _ _ _ (World.alloc w5 _))
           go_loud (
           refine wpList_append_sn _ rfl _ _ rfl w5.heap.size _ 0 [] rfl ((show Own (w5.alloc (.cells #[] 5)) w5.heap.size [] from heap_alloc_new w5 _).owns (Nat.le_refl _) (by decide)) _ bs rfl ((HS.out.below H5.out).below (below1 w5 _)) (by omega) (by simp) ?_
           intro ao1 c1 w7 hown hgrow
           have H7 := hid (app_one H5.out hown hgrow (by intro k hk; simp [Value.ownBlock, Act.eval] at hk; omega))
           clear hown hgrow))
        | (at_builtin
           go_loud (
           refine wpList_append_sn _ rfl _ _ rfl w5.heap.size _ bs.length bs rfl H7.out.1 _ ms rfl (HM.out.below H7.out.2.1) (by omega) H7.out.2.2 ?_
           intro ao2 c2 w8 hown hgrow
           have H8 := hid (app_two H7.out.1 H7.out.2.1 H7.out.2.2 H5.out.size hown hgrow)
           clear hown hgrow))
        | (go_at_call 13
           refine (known_any _).mono ?_
           rintro e w10 ⟨rfl, hb10⟩
           have H10 := hid (below_on H9.out hb10)
           clear hb10))
      go_ret
      exact ⟨rfl, H10.out⟩
  · obtain ⟨cN, hwr, hcN⟩ : ∃ c : Nat, cut.tmod bs.length = c ∧ c < bs.length := by
      have := HTB.out
      exact ⟨(cut.tmod bs.length).toNat, by omega, by omega⟩
    have HWR := hid hwr
    clear hwr
    go_upto_region 13 with fail
    rw [HWR.out]
    clear hneg
    obtain ⟨rv, hrv, hsl, -⟩ := sl_to (HS.out.1.below H4.out) cN (by omega)
    obtain ⟨gv, hgv⟩ : ∃ gv, gv = Value.slice ao bs.length cc := ⟨_, rfl⟩
    rw [← hgv] at hrv HS ⊢
    clear hgv
    obtain ⟨E, hE, hE0⟩ := HCUT.out cN hcN
    have HD2 := hid (fun W hW => HDD.out rv (bs.take cN) W hW (HO.out.1.take cN) (by rw [List.length_take]; omega))
    rw [hE] at HD2
    unfold DPost at HD2
    dsimp only at HD2
    have he2 : (E == 0) = false := by simpa using hE0
    have HSL := hid hsl
    clear hsl hE hE0
    by_cases hms : ms = []
    · subst hms
      go_wp2_with (first
        | (go_at_call 17
           refine (HD2.out _ HSL.out).mono ?_
           rintro e w5 ⟨hb5, rfl⟩
           have H5 := hid (below_on H4.out hb5)
           clear hb5)
        | (go_at_call 13
           refine (known_any _).mono ?_
           rintro e w6 ⟨rfl, hb6⟩
           have H6 := hid (below_on H5.out hb6)
           clear hb6))
      go_ret
      exact ⟨rfl, H6.out⟩
    · have hmp : (0 : Int) < (ms.length : Int) := by have := List.length_pos_iff.2 hms; omega
      have HD3 := hid (fun v' W hW => HDD.out v' (bs ++ ms) W hW (fun x hx => (List.mem_append.1 hx).elim (HO.out.1 x) (HO.out.2 x)) (by rw [List.length_append]; omega))
      rw [HMORE.out hms] at HD3
      unfold DPost at HD3
      dsimp only at HD3
      clear hms
      go_wp2_with (first
        | (go_at_call 17
           first
           | ((with_reducible show Calls _ _ _ w4 _)
              refine (HD2.out _ HSL.out).mono ?_
              rintro e w5 ⟨hb5, rfl⟩
              have H5 := hid (below_on H4.out hb5)
              clear hb5)
           | (refine (HD3.out _ _ (sl_of_owns H8.out.1)).mono ?_
              rintro e w9 ⟨hb9, rfl⟩
              have H9 := hid (below_on H8.out.2 hb9)
              clear hb9))
        | (at_builtin
           (with_reducible show wpList _ _ _ _ _ (World.alloc w5 _))
           go_loud (
           refine wpList_append_sn _ rfl _ _ rfl w5.heap.size _ 0 [] rfl ((show Own (w5.alloc (.cells #[] 5)) w5.heap.size [] from heap_alloc_new w5 _).owns (Nat.le_refl _) (by decide)) _ bs rfl ((HS.out.below H5.out).below (below1 w5 _)) (by omega) (by simp) ?_
           intro ao1 c1 w7 hown hgrow
           have H7 := hid (app_one H5.out hown hgrow (by intro k hk; simp [Value.ownBlock, Act.eval] at hk; omega))
           clear hown hgrow))
        | (at_builtin
           go_loud (
           refine wpList_append_sn _ rfl _ _ rfl w5.heap.size _ bs.length bs rfl H7.out.1 _ ms rfl (HM.out.below H7.out.2.1) (by omega) H7.out.2.2 ?_
           intro ao2 c2 w8 hown hgrow
           have H8 := hid (app_two H7.out.1 H7.out.2.1 H7.out.2.2 H5.out.size hown hgrow)
           clear hown hgrow))
        | (go_at_call 13
           refine (known_any _).mono ?_
           rintro e w10 ⟨rfl, hb10⟩
           have H10 := hid (below_on H9.out hb10)
           clear hb10))
      go_ret
      exact ⟨rfl, H10.out⟩

end Go.Proofs.Ytljfmbjibjoiiaa

namespace Go.Proofs.Ytljfmbjibjoiiaa
open Go.RowKit Go.Lib

theorem fldV_oct (f : Fk) (v : Int) (h0 : 0 ≤ v) (h1 : v < 256) : Oct (fldV f v) := by
  have hr : Oct (rowF 10 v) := oct_row 10 v h0 (by omega)
  have hb : Oct [v] := fun y hy => by simp at hy; omega
  cases f
  · exact hb
  · exact hb
  · exact hb
  · exact hr
  · exact hr
  · exact hr
  · exact hr

theorem oct_app {a b : List Int} (h1 : Oct a) (h2 : Oct b) : Oct (a ++ b) := fun y hy => (List.mem_append.1 hy).elim (h1 y) (h2 y)

theorem insBx_oct (x : Ins) (hop : 1 ≤ x.op ∧ x.op ≤ 16) (hf : ∀ f ∈ opF (opN x.op), 0 ≤ f.get x ∧ f.get x < 256) (hc : chk x.k x.i x.t = 0) (hi : InsOk x) : Oct (insBx x) := by
  rw [insBx_eq]
  refine oct_app (fun y hy => by simp at hy; omega) (oct_app ?_ ?_)
  · intro y hy
    obtain ⟨f, hf1, hf2⟩ := List.mem_flatMap.1 hy
    exact fldV_oct f _ (hf f hf1).1 (hf f hf1).2 y hf2
  · split
    · have hl := encB_len x.k x.i x.t hc hi.1 hi.2
      exact oct_app (oct_row 10 _ (by omega) (by have := hl.1; omega)) hl.2
    · exact fun y hy => by simp at hy

theorem procB_oct (nm : ByteArray) (ar : Int) (xs : List Ins) (hE : (procChk nm ar xs).2 = 0) (hi : ∀ x ∈ xs, InsOk x) : Oct (procB nm ar xs) := by
  have g := good_of hE
  have h1 := g.a0
  have h2 := g.a1
  have h3 := g.len
  have h4 := g.size
  have h5 := strBs_len nm
  unfold procB
  refine oct_app (oct_app (oct_app (oct_app (oct_row 10 _ (by omega) (by omega)) (oct_str nm)) (oct_row 10 _ h1 (by omega))) (oct_row 10 _ (by omega) (by omega))) ?_
  intro y hy
  obtain ⟨x, hx1, hx2⟩ := List.mem_flatMap.1 hy
  obtain ⟨j, hj⟩ := List.getElem?_of_mem hx1
  obtain ⟨q1, q2, q3⟩ := g.at hj
  exact insBx_oct x q1 q2 q3 (hi x hx1) y hx2

theorem procB_len (nm : ByteArray) (ar : Int) (xs : List Ins) (hE : (procChk nm ar xs).2 = 0) (hi : ∀ x ∈ xs, InsOk x) : (procB nm ar xs).length ≤ 100000000 := by
  have g := good_of hE
  have h4 := g.size
  have h5 := strBs_len nm
  have h3 := g.len
  have r1 := rowF_le 10 ((strBs nm).length : Nat)
  have r2 := rowF_le 10 ar
  have r3 := rowF_le 10 (xs.length : Int)
  have hc := code_len xs (fun x hx => by
    obtain ⟨j, hj⟩ := List.getElem?_of_mem hx
    exact insBx_len x (g.at hj).2.2 (hi x hx))
  have : 1002000 * xs.length ≤ 1002000 * 64 := Nat.mul_le_mul_left _ h3
  unfold procB
  simp only [List.length_append]
  omega

/-- The law's two first blocks: the procedure, the instruction. -/
structure Bst (w W : World) (nm : ByteArray) (ar : Int) (S : Value) (x : Ins) : Prop where
  r0 : W.heap[w.heap.size]? = some (po nm ar S)
  r1 : W.heap[w.heap.size + 1]? = some (io x.op x.a x.b x.c x.n x.k x.i x.t)
  hb : Below w.heap.size w W

theorem Bst.below {w W W' : World} {nm : ByteArray} {ar : Int} {S : Value} {x : Ins} (h : Bst w W nm ar S x) (hb : Below W.heap.size W W') : Bst w W' nm ar S x :=
  ⟨blk_of hb h.r0 (lt_of h.r0), blk_of hb h.r1 (lt_of h.r1), below_on h.hb hb⟩

theorem bst_start (w : World) (nm : ByteArray) (ar : Int) (S : Value) (x : Ins) : Bst w ((w.alloc (po nm ar S)).alloc (io x.op x.a x.b x.c x.n x.k x.i x.t)) nm ar S x := ⟨two1 w _ _, two2 w _ _, below2 w _ _⟩

set_option maxRecDepth 100000 in
set_option maxHeartbeats 4000000 in
theorem back_err (nm : ByteArray) (ar : Int) (S : Value) (xs : List Ins) (x : Ins) (i : Int) (w : World) (h : Rf w 8 S xs.length (xs.flatMap Ins.cells)) (hi : ∀ x ∈ xs, InsOk x) (hl : (xs.length : Int) ≤ 65536) (hE : (procChk nm ar xs).2 ≠ 0) :
    Calls Try.prog 6 #[.agg #[.string nm, .int .i64 ar, S], x.val, .int .i64 i] w fun x w' => x = .returned (.bool true) ∧ Below w.heap.size w w' := by
  obtain ⟨E1, E, hR⟩ : ∃ R1 R2, procChk nm ar xs = (R1, R2) := ⟨_, _, rfl⟩
  have HC := hid (fun W hW => pcheck_any nm ar S xs W hW (by omega))
  have HE := hid (fun W hW => pencode_any nm ar S xs W hW (by omega) hi)
  unfold PEnc at HE
  rw [hR] at HC HE hE
  dsimp only at HC HE hE
  have HH := hid (code_of_rf h)
  obtain ⟨ao, cap, rfl, _, _⟩ := h.shape
  have H0 := hid (bst_start w nm ar (.slice ao xs.length cap) x)
  have he2 : (E == 0) = false := by simpa using hE
  have HE0 := hid hE
  unfold Ins.val
  clear h hi hR hE
  go_enter Try.func6, Try.ntmps6
  go_wp2_with (first
    | (go_at_call 10
       refine (HC.out _ (HH.out.below H0.out.hb)).mono ?_
       rintro e w1 ⟨rfl, hb1⟩
       have H1 := hid (H0.out.below hb1)
       obtain ⟨p0, p1', p2', -⟩ := vfacts H1.out.r0
       clear hb1)
    | (go_at_call 14
       refine (HE.out _ (HH.out.below H1.out.hb)).mono ?_
       rintro e w2 (⟨-, rfl, hb2⟩ | ⟨h2, -⟩)
       rotate_left
       · exact absurd h2 HE0.out
       have H2 := hid (H1.out.below hb2)
       clear hb2)
    | (go_at_call 13
       refine (known_any _).mono ?_
       rintro e w3 ⟨rfl, hb3⟩
       have H3 := hid (below_on H2.out.hb hb3)
       clear hb3))
  go_ret
  exact ⟨rfl, H3.out⟩

theorem dst_code {W : World} {cb : Nat} {xs : List Ins} (hc : ∀ (j : Nat) (x : Ins), xs[j]? = some x → InsAt W cb (j * 8) x) : CodeAt W (.slice (some ⟨cb, 0, none⟩) xs.length xs.length) xs :=
  ⟨_, _, rfl, Nat.le_refl _, fun _ => ⟨cb, 0, rfl, fun j x hx => by rw [Nat.zero_add]; exact hc j x hx⟩⟩

/-- An instruction stored. -/
def put8 (W : World) (g o : Nat) (x : Ins) : World := ((((((((W.setCell ⟨g, o, none⟩ (.int .i64 x.op)).setCell ⟨g, o + 1, none⟩ (.int .i64 x.a)).setCell ⟨g, o + 2, none⟩ (.int .i64 x.b)).setCell ⟨g, o + 3, none⟩ (.int .i64 x.c)).setCell ⟨g, o + 4, none⟩ (.int .i64 x.n)).setCell ⟨g, o + 5, none⟩ (.int .i64 x.k)).setCell ⟨g, o + 6, none⟩ (.int .i64 x.i)).setCell ⟨g, o + 7, none⟩ (.string x.t))

theorem put8_block (W : World) (g o : Nat) (x : Ins) (k : Nat) (hk : k ≠ g) : (put8 W g o x).heap[k]? = W.heap[k]? := by
  unfold put8
  repeat rw [Below.heap_setCell _ _ _ _ hk]

theorem put8_kept (W : World) (g o : Nat) (x : Ins) : Kept (fun k => k = g) W (put8 W g o x) := by
  unfold put8
  exact ((((((((Kept.refl (fun k => k = g) W).setCell (p := ⟨g, o, none⟩) (fun _ => rfl) _).setCell (p := ⟨g, o + 1, none⟩) (fun _ => rfl) _).setCell (p := ⟨g, o + 2, none⟩) (fun _ => rfl) _).setCell (p := ⟨g, o + 3, none⟩) (fun _ => rfl) _).setCell (p := ⟨g, o + 4, none⟩) (fun _ => rfl) _).setCell (p := ⟨g, o + 5, none⟩) (fun _ => rfl) _).setCell (p := ⟨g, o + 6, none⟩) (fun _ => rfl) _).setCell (p := ⟨g, o + 7, none⟩) (fun _ => rfl) _

theorem put8_out (W : World) (g o : Nat) (x : Ins) (q : Nat) (hq : q < o ∨ o + 8 ≤ q) : (put8 W g o x).cell? ⟨g, q, none⟩ = W.cell? ⟨g, q, none⟩ := by
  unfold put8
  rw [cs_other (adr_ne (by omega)), cs_other (adr_ne (by omega)), cs_other (adr_ne (by omega)), cs_other (adr_ne (by omega)), cs_other (adr_ne (by omega)), cs_other (adr_ne (by omega)), cs_other (adr_ne (by omega)), cs_other (adr_ne (by omega))]

theorem put8_in (W : World) (g o : Nat) (x y : Ins) (h : InsAt W g o y) : InsAt (put8 W g o x) g o x := by
  have h1 := h.setOp x.op
  have h2 := h1.set .a x.a
  have h3 := h2.set .b x.b
  have h4 := h3.set .c x.c
  have h5 := h4.set .arg x.n
  exact h5.setV x.k x.i x.t

theorem put8_code {W : World} {g cap cN : Nat} {xs : List Ins} {x : Ins} (hcap : xs.length ≤ cap) (hc : ∀ (j : Nat) (y : Ins), xs[j]? = some y → InsAt W g (j * 8) y) (hlt : cN < xs.length) :
    CodeAt (put8 W g (cN * 8) x) (.slice (some ⟨g, 0, none⟩) xs.length cap) (xs.set cN x) := by
  refine ⟨_, _, by rw [List.length_set], by rw [List.length_set]; exact hcap, fun _ => ⟨g, 0, rfl, fun j y hy => ?_⟩⟩
  rw [Nat.zero_add]
  by_cases hj : j = cN
  · subst hj
    rw [List.getElem?_set_self hlt] at hy
    have hy := Option.some.inj hy
    subst hy
    exact put8_in W g (j * 8) x _ (hc j _ (List.getElem?_eq_getElem hlt))
  · rw [List.getElem?_set_ne (Ne.symm hj)] at hy
    exact (hc j y hy).moved (fun m hm => put8_out W g (cN * 8) x _ (by omega))

set_option maxRecDepth 100000 in
theorem ins_eql (x y : Ins) (w : World) : (binOp BinOp.eql 28 x.val y.val).run Try.prog w = .ok (.bool (decide (x = y))) w := by
  have h := ins_neq x y w
  rw [show x.val = .agg #[.int .i64 x.op, .int .i64 x.a, .int .i64 x.b, .int .i64 x.c, .int .i64 x.n, .int .i64 x.k, .int .i64 x.i, .string x.t] from rfl, show y.val = .agg #[.int .i64 y.op, .int .i64 y.a, .int .i64 y.b, .int .i64 y.c, .int .i64 y.n, .int .i64 y.k, .int .i64 y.i, .string y.t] from rfl] at h ⊢
  rw [run_neq_struct] at h
  rw [run_eql_struct]
  cases hr : (Op.equalIn 10000 28 (.agg #[.int .i64 x.op, .int .i64 x.a, .int .i64 x.b, .int .i64 x.c, .int .i64 x.n, .int .i64 x.k, .int .i64 x.i, .string x.t]) (.agg #[.int .i64 y.op, .int .i64 y.a, .int .i64 y.b, .int .i64 y.c, .int .i64 y.n, .int .i64 y.k, .int .i64 y.i, .string y.t])).run Try.prog w with
  | ok b w2 =>
    rw [hr] at h
    simp only [Result.andThen_ok] at h ⊢
    injection h with h1 h2
    injection h1 with h1
    rw [h2]
    congr 2
    cases b <;> cases hd : decide (x = y) <;> simp_all
  | _ => rw [hr] at h; simp [Result.andThen] at h

/-- The same bytes, just if it is the same instruction. -/
theorem set_same (nm : ByteArray) (ar : Int) (xs : List Ins) (x y : Ins) (cN : Nat) (hE : (procChk nm ar xs).2 = 0) (hi : ∀ x ∈ xs, InsOk x) (hx : InsOk x) (hy : xs[cN]? = some y) (hE2 : (procChk nm ar (xs.set cN x)).2 = 0) :
    decide (procB nm ar xs = procB nm ar (xs.set cN x)) = decide (x = y) := by
  have hi2 : ∀ z ∈ xs.set cN x, InsOk z := fun z hz => (List.mem_or_eq_of_mem_set hz).elim (hi z) (fun e => e ▸ hx)
  have hlt : cN < xs.length := (List.getElem?_eq_some_iff.1 hy).1
  by_cases hxy : x = y
  · subst hxy
    have e : xs.set cN x = xs := by
      apply List.ext_getElem?
      intro j
      by_cases hj : cN = j
      · subst hj; rw [List.getElem?_set_self hlt, hy]
      · rw [List.getElem?_set_ne hj]
    rw [e]
    simp
  · have hne : procB nm ar xs ≠ procB nm ar (xs.set cN x) := by
      intro e
      have d1 := dec_procB nm ar xs hE hi
      have d2 := dec_procB nm ar (xs.set cN x) hE2 hi2
      rw [e, d2] at d1
      injection d1 with d1
      injection d1 with _ d1
      injection d1 with _ d1
      have := congrArg (fun l => l[cN]?) d1
      simp only [List.getElem?_set_self hlt, hy] at this
      exact hxy (Option.some.inj this)
    rw [decide_eq_false hne, decide_eq_false hxy]

theorem tw_at {w W : World} {g g2 : Nat} {cur : Array Value} {xs zs : List Ins} {bs : List Int} (hg : w.heap.size ≤ g) (_hb : W.heap[g]? = some (.cells cur 28 (0, 0))) (hc : ∀ (j : Nat) (x : Ins), (xs ++ zs)[j]? = some x → InsAt W g (j * 8) x) (_hB : Below w.heap.size w W) (ho : Own w g2 bs) :
    (∀ (j : Nat) (x : Ins), xs[j]? = some x → InsAt W g (j * 8) x) ∧ g2 ≠ g := by
  refine ⟨fun j x hx => hc j x ?_, by have := lt_of ho; omega⟩
  rw [List.getElem?_append_left (List.getElem?_eq_some_iff.1 hx).1]
  exact hx

/-- Behind the store. -/
structure Bk2 (w W : World) (nm : ByteArray) (ar : Int) (S : Value) (x : Ins) (g2 : Nat) (bs : List Int) (S2 : Value) (ys : List Ins) (r : Nat) : Prop where
  st : Bst w W nm ar S x
  ow : Own W g2 bs
  co : CodeAt W S2 ys
  t : W.heap[r]? = some (po nm ar S2)

theorem bk_world {w w4 w5 : World} {nm : ByteArray} {ar : Int} {S : Value} {x : Ins} {g g2 c5 cN : Nat} {bs : List Int} {xs : List Ins} {cur : Array Value}
    (h : Bst w w5 nm ar S x ∧ Own w5 g2 bs ∧ ((∀ (j : Nat) (y : Ins), xs[j]? = some y → InsAt w5 g (j * 8) y) ∧ g2 ≠ g) ∧ xs.length + 9 ≤ c5 ∧ w5.heap[g]? = some (.cells cur 28 (0, 0)) ∧ w4.heap.size ≤ g ∧ w.heap.size + 1 < w4.heap.size) (hlt : cN < xs.length) :
    Bk2 w ((put8 w5 g (cN * 8) x).alloc (po nm ar (.slice (some ⟨g, 0, none⟩) xs.length c5))) nm ar S x g2 bs (.slice (some ⟨g, 0, none⟩) xs.length c5) (xs.set cN x) w5.heap.size := by
  obtain ⟨hs, ho, ⟨hc, hne⟩, hc5, hb, hg, hl⟩ := h
  have hz : (put8 w5 g (cN * 8) x).heap.size = w5.heap.size := by simp [put8, World.setCell]
  have k := put8_kept w5 g (cN * 8) x
  have b0 := (k.block _ (lt_of hs.r0) (by omega)).trans hs.r0
  have b1 := (k.block _ (lt_of hs.r1) (by omega)).trans hs.r1
  have b2 := (k.block _ (lt_of ho) hne).trans ho
  have hB : Below w.heap.size w (put8 w5 g (cN * 8) x) := hs.hb.trans (k.below hs.hb.size (fun q hq e => by omega))
  have hco := put8_code (W := w5) (x := x) (cap := c5) (by omega) hc hlt
  have hn := heap_alloc_new (put8 w5 g (cN * 8) x) (po nm ar (.slice (some ⟨g, 0, none⟩) xs.length c5))
  rw [hz] at hn
  have hbb := below1 (put8 w5 g (cN * 8) x) (po nm ar (.slice (some ⟨g, 0, none⟩) xs.length c5))
  exact ⟨⟨blk_of hbb b0 (lt_of b0), blk_of hbb b1 (lt_of b1), below_on hB hbb⟩, blk_of hbb b2 (lt_of b2), hco.below hbb, hn⟩

theorem below_drew {w0 w w1 : World} (h0 : Below w0.heap.size w0 w) (h : Below w.drew.heap.size w.drew w1) : Below w0.heap.size w0 w1 := by
  have h' : Below w.heap.size w w1 := ⟨h.os, h.tape, h.output, h.size, h.block⟩
  exact below_on h0 h'

end Go.Proofs.Ytljfmbjibjoiiaa

namespace Go.Proofs.Ytljfmbjibjoiiaa
open Go.RowKit Go.Lib

theorem wb0 (v : Value) (bs : List Int) (y : Int) (w : World) (h : Sn w v bs) (hl : bs.length ≤ 1000000000) :
    Calls Try.prog 34 #[.agg #[v, .int .i64 0], .int .u8 y] w (RWPost w v (bs ++ [y]) 0) := by
  have := rbyteW_any v (bs, 0) y w h hl
  simpa [laidZ] using this

theorem wn0 (v : Value) (bs : List Int) (y : Int) (w : World) (h : Sn w v bs) (hl : bs.length ≤ 1000000000) (h0 : 0 ≤ y) (h1 : y < 9223372036854775808) :
    Calls Try.prog 33 #[.agg #[v, .int .i64 0], .int .i64 y] w (RWPost w v (bs ++ rowF 10 y) 0) := by
  have := rnumW_any v (bs, 0) y w h (by simp; omega) h1
  have e : rnumZ (bs, 0) y = (bs ++ rowF 10 y, 0) := by rw [rnumZ, if_neg (by omega)]; simp [laidZ]
  rw [e] at this
  exact this

theorem wt0 (v : Value) (bs : List Int) (s : ByteArray) (w : World) (h : Sn w v bs) (hl : bs.length ≤ 1000000000) (hs : s.size ≤ 1000000000) :
    Calls Try.prog 32 #[.agg #[v, .int .i64 0], .string s] w (RWPost w v (bs ++ (rowF 10 (strBs s).length ++ strBs s)) 0) := by
  have := rtextW_any v (bs, 0) s w h hl hs
  have e : rtextZ (bs, 0) (strBs s) = (bs ++ (rowF 10 (strBs s).length ++ strBs s), 0) := by rw [rtextZ, rnumZ, if_neg (by omega)]; simp [laidZ]
  rw [e] at this
  exact this

/-- While the document encodes: the procedure's block, the Writer's, its bytes. -/
structure Ren (w W : World) (nm : ByteArray) (ar : Int) (S : Value) (r : Nat) (v : Value) (bs : List Int) : Prop where
  r0 : W.heap[w.heap.size]? = some (po nm ar S)
  rw : W.heap[r]? = some (.cells #[v, .int .i64 0] 74 (0, 0))
  sn : Sn W v bs
  own : ∀ k, v.ownBlock = some k → k ≠ r
  lt : w.heap.size < r
  hb : Below w.heap.size w W

theorem Ren.below {w W W' : World} {nm : ByteArray} {ar : Int} {S : Value} {r : Nat} {v : Value} {bs : List Int} (h : Ren w W nm ar S r v bs) (hb : Below W.heap.size W W') : Ren w W' nm ar S r v bs :=
  ⟨blk_of hb h.r0 (lt_of h.r0), blk_of hb h.rw (lt_of h.rw), h.sn.below hb, h.own, h.lt, below_on h.hb hb⟩

theorem set2c {w : World} {r : Nat} {a b x y : Value} {t : TypeId} (h : w.heap[r]? = some (.cells #[a, b] t (0, 0))) : ((w.setCell ⟨r, 0, none⟩ x).setCell ⟨r, 1, none⟩ y).heap[r]? = some (.cells #[x, y] t (0, 0)) := by
  simp [World.setCell, Array.getElem?_modify, h]

/-- Behind a call on the Writer, its answer stored. -/
theorem Ren.put {w W w2 : World} {nm : ByteArray} {ar : Int} {S : Value} {r : Nat} {v v2 : Value} {bs bs2 : List Int} (h : Ren w W nm ar S r v bs) (hs : Sn w2 v2 bs2) (hb : Below W.heap.size W w2)
    (hn : v2 = v ∨ ∀ k, v2.ownBlock = some k → W.heap.size ≤ k ∧ k < w2.heap.size) : Ren w ((w2.setCell ⟨r, 0, none⟩ v2).setCell ⟨r, 1, none⟩ (.int .i64 0)) nm ar S r v2 bs2 := by
  have h2 := h.below hb
  have hown : ∀ k, v2.ownBlock = some k → k ≠ r := by
    intro k hk
    rcases hn with rfl | hn
    · exact h.own k hk
    · have := hn k hk; have := lt_of h.rw; omega
  have k2 := ((Kept.refl (fun k => k = r) w2).setCell (p := ⟨r, 0, none⟩) (fun _ => rfl) v2).setCell (p := ⟨r, 1, none⟩) (fun _ => rfl) (.int .i64 0)
  have hlt := h.lt
  exact ⟨(k2.block _ (lt_of h2.r0) (by omega)).trans h2.r0, set2c h2.rw, hs.kept k2 (fun k hk e => hown k hk e), hown, h.lt, below_set2 h2.hb (by omega) _ _⟩

/-- A block that is neither the Writer's. -/
theorem put_other {W w2 : World} {r q : Nat} {o : Obj} (h : W.heap[q]? = some o) (hb : Below W.heap.size W w2) (hq : q ≠ r) (v2 : Value) : ((w2.setCell ⟨r, 0, none⟩ v2).setCell ⟨r, 1, none⟩ (.int .i64 0)).heap[q]? = some o :=
  (Below.heap_setCell _ _ _ _ hq).trans ((Below.heap_setCell _ _ _ _ hq).trans (blk_of hb h (lt_of h)))

/-- The bytes of a field by its letter. -/
def ltB (x : Ins) (c : Int) : List Int :=
  if c = 65 then [x.a] else if c = 66 then [x.b] else if c = 67 then [x.c] else if c = 97 then rowF 10 x.a else if c = 78 then rowF 10 x.n else if c = 86 then valB x else []

theorem ltB_all (x : Ins) (h : 1 ≤ x.op ∧ x.op ≤ 16) : [x.op] ++ (strBs (fdS x.op)).flatMap (ltB x) = insBx x := by
  obtain ⟨o, a, b, c, n, k, i, t⟩ := x
  rcases op_cases o with rfl | rfl | rfl | rfl | rfl | rfl | rfl | rfl | rfl | rfl | rfl | rfl | rfl | rfl | rfl | rfl | h2
  case inr.inr.inr.inr.inr.inr.inr.inr.inr.inr.inr.inr.inr.inr.inr.inr => exact absurd h h2
  all_goals simp [insBx, insB, opN, opF, fldV, Fk.get, fdS, strBs, ltB, valB]

/-- What a good instruction's letters bear. -/
structure Lts (x : Ins) : Prop where
  of : ∀ c ∈ strBs (fdS x.op), c = 65 ∨ c = 66 ∨ c = 67 ∨ c = 97 ∨ c = 78 ∨ c = 86
  a : (65 : Int) ∈ strBs (fdS x.op) ∨ (97 : Int) ∈ strBs (fdS x.op) → 0 ≤ x.a ∧ x.a < 256
  b : (66 : Int) ∈ strBs (fdS x.op) → 0 ≤ x.b ∧ x.b < 256
  c : (67 : Int) ∈ strBs (fdS x.op) → 0 ≤ x.c ∧ x.c < 256
  n : (78 : Int) ∈ strBs (fdS x.op) → 0 ≤ x.n ∧ x.n < 256

theorem lts_of (x : Ins) (h : 1 ≤ x.op ∧ x.op ≤ 16) (hf : ∀ f ∈ opF (opN x.op), 0 ≤ f.get x ∧ f.get x < 256) : Lts x := by
  obtain ⟨o, a, b, c, n, k, i, t⟩ := x
  rcases op_cases o with rfl | rfl | rfl | rfl | rfl | rfl | rfl | rfl | rfl | rfl | rfl | rfl | rfl | rfl | rfl | rfl | h2
  case inr.inr.inr.inr.inr.inr.inr.inr.inr.inr.inr.inr.inr.inr.inr.inr => exact absurd h h2
  all_goals
    simp [opN, opF, Fk.get] at hf
    constructor <;> simp [fdS, strBs, hf]

end Go.Proofs.Ytljfmbjibjoiiaa
