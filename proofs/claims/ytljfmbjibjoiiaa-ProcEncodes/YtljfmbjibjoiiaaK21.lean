import Derived.Test.YtljfmbjibjoiiaaK18
import Derived.Test.YtljfmbjibjoiiaaK20
import Derived.Test.YtljfmbjibjoiiaaK15
namespace Go.Proofs.Ytljfmbjibjoiiaa
open Go.RowKit

set_option maxRecDepth 100000 in
set_option maxHeartbeats 8000000 in
theorem risName_any (s : ByteArray) (w : World) : Calls Try.prog 26 #[.string s] w fun x w' => x = .returned (.bool (nameB s)) ∧ w' = w := by
  obtain ⟨r, hr⟩ : ∃ r, r = nameB s := ⟨_, rfl⟩
  rw [← hr]
  have HR := hid hr
  clear hr
  by_cases h1 : 1 ≤ s.size
  · by_cases h1' : s.size ≤ 32
    · have hs2 : 0 < s.size := by omega
      obtain ⟨a0, ha0⟩ : ∃ a0 : UInt8, a0 = s[0]'hs2 := ⟨_, rfl⟩
      have hh := strBs_head s hs2
      rw [← ha0] at hh
      have g1 : decide ((s.size : Int) < 1) = false := by simp; omega
      have g2 : decide ((32 : Int) < (s.size : Int)) = false := by simp; omega
      have hs1 : 1 ≤ s.size ∧ s.size ≤ 32 := ⟨h1, h1'⟩
      have hsz : s.size ≤ 32 := h1'
      by_cases h2 : letB (a0.toNat : Int) = true
      · have HH := hid hh
        have HS := hid hs1
        have HL := hid h2
        clear h1 hh hs1 h2 h1'
        go_enter Try.func26, Try.ntmps26
        go_wp2_with (go_at_call 59; rw [← ha0]; refine (rletter_any (a0.toNat : Int) _).mono ?_; rintro e w' ⟨rfl, e1⟩; rw [e1, HL.out]; clear e1 w')
        go_loopw [3] (fun i wr => ∃ (k : Nat), k ≤ s.size ∧ i = .int .i64 k ∧ wr = w ∧ Hid (∀ x ∈ (strBs s).take k, nbB x = true)) (fun i _ => s.size - (intOf i).toNat)
        case atStart => exact ⟨0, Nat.zero_le _, rfl, rfl, hid (by simp)⟩
        case round =>
          obtain ⟨k, hk, rfl, rfl, hpre⟩ := hrel
          by_cases hlt : k < s.size
          · obtain ⟨a1, ha1⟩ : ∃ a1 : UInt8, a1 = s[k]'hlt := ⟨_, rfl⟩
            have HA := hid (strBs_at s k hlt)
            rw [← ha1] at HA
            obtain ⟨l, hl⟩ : ∃ l, l = letB (a1.toNat : Int) := ⟨_, rfl⟩
            have HQ := hid (rletter_any (a1.toNat : Int))
            rw [← hl] at HQ
            cases l
            · skip
              by_cases u1 : (a1.toNat : Int) < 48
              · have u1a : decide ((a1.toNat : Int) < 48) = true := by simpa using u1
                have u1b : decide ((48 : Int) ≤ (a1.toNat : Int)) = false := by simp; omega
                have s95 : ¬ (a1.toNat : Int) = 95 := by omega
                have s95a : ((a1.toNat : Int) == 95) = false := by simpa using s95
                have s95b : ((a1.toNat : Int) != 95) = true := by simp [s95]
                by_cases s45 : (a1.toNat : Int) = 45
                · have s45a : ((a1.toNat : Int) == 45) = true := by simpa using s45
                  have s45b : ((a1.toNat : Int) != 45) = false := by simp [s45]
                  have h3 : nbB (a1.toNat : Int) = true := by simp [nbB, ← hl, u1b, s95a, s45a]
                  have H3 := hid h3
                  clear h3 hl
                  subst ha1
                  clear u1 s95 s45
                  go_wp2_with (go_at_call 59; refine (HQ.out _).mono ?_; rintro e w' ⟨rfl, e1⟩; rw [e1]; clear e1 w')
                  go_roundw
                  case rel =>
                    refine ⟨k + 1, by omega, by go_num, (by first | rfl | trivial), hid ?_⟩
                    intro x hx
                    rw [List.take_add_one, HA.out] at hx
                    rcases List.mem_append.1 hx with h | h
                    · exact hpre.out x h
                    · simp at h; rw [h]; exact H3.out
                  case measure => simp [intOf]; omega
                have s45a : ((a1.toNat : Int) == 45) = false := by simpa using s45
                have s45b : ((a1.toNat : Int) != 45) = true := by simp [s45]
                by_cases s46 : (a1.toNat : Int) = 46
                · have s46a : ((a1.toNat : Int) == 46) = true := by simpa using s46
                  have s46b : ((a1.toNat : Int) != 46) = false := by simp [s46]
                  have h3 : nbB (a1.toNat : Int) = true := by simp [nbB, ← hl, u1b, s95a, s45a, s46a]
                  have H3 := hid h3
                  clear h3 hl
                  subst ha1
                  clear u1 s95 s45 s46
                  go_wp2_with (go_at_call 59; refine (HQ.out _).mono ?_; rintro e w' ⟨rfl, e1⟩; rw [e1]; clear e1 w')
                  go_roundw
                  case rel =>
                    refine ⟨k + 1, by omega, by go_num, (by first | rfl | trivial), hid ?_⟩
                    intro x hx
                    rw [List.take_add_one, HA.out] at hx
                    rcases List.mem_append.1 hx with h | h
                    · exact hpre.out x h
                    · simp at h; rw [h]; exact H3.out
                  case measure => simp [intOf]; omega
                have s46a : ((a1.toNat : Int) == 46) = false := by simpa using s46
                have s46b : ((a1.toNat : Int) != 46) = true := by simp [s46]
                have h3 : nbB (a1.toNat : Int) = false := by simp [nbB, ← hl, u1b, s95a, s45a, s46a]
                have H3 := hid h3
                clear h3 hl
                subst ha1
                clear u1 s95 s45 s46
                go_wp2_with (go_at_call 59; refine (HQ.out _).mono ?_; rintro e w' ⟨rfl, e1⟩; rw [e1]; clear e1 w')
                go_ret
                refine ⟨?_, rfl⟩
                rw [HR.out, show nameB s = false by
                  simp only [nameB, decide_eq_false_iff_not]
                  rintro ⟨_, _, _, hall⟩
                  have := hall _ (List.mem_of_getElem? HA.out)
                  rw [H3.out] at this
                  cases this]
                rfl
              · have u1a : decide ((a1.toNat : Int) < 48) = false := by simp; omega
                have u1b : decide ((48 : Int) ≤ (a1.toNat : Int)) = true := by simp; omega
                by_cases u2 : (57 : Int) < (a1.toNat : Int)
                · have u2a : decide ((57 : Int) < (a1.toNat : Int)) = true := by simpa using u2
                  have u2b : decide ((a1.toNat : Int) ≤ 57) = false := by simp; omega
                  by_cases s95 : (a1.toNat : Int) = 95
                  · have s95a : ((a1.toNat : Int) == 95) = true := by simpa using s95
                    have s95b : ((a1.toNat : Int) != 95) = false := by simp [s95]
                    have h3 : nbB (a1.toNat : Int) = true := by simp [nbB, ← hl, u1b, u2b, s95a]
                    have H3 := hid h3
                    clear h3 hl
                    subst ha1
                    clear u1 u2 s95
                    go_wp2_with (go_at_call 59; refine (HQ.out _).mono ?_; rintro e w' ⟨rfl, e1⟩; rw [e1]; clear e1 w')
                    go_roundw
                    case rel =>
                      refine ⟨k + 1, by omega, by go_num, (by first | rfl | trivial), hid ?_⟩
                      intro x hx
                      rw [List.take_add_one, HA.out] at hx
                      rcases List.mem_append.1 hx with h | h
                      · exact hpre.out x h
                      · simp at h; rw [h]; exact H3.out
                    case measure => simp [intOf]; omega
                  have s95a : ((a1.toNat : Int) == 95) = false := by simpa using s95
                  have s95b : ((a1.toNat : Int) != 95) = true := by simp [s95]
                  have s45 : ¬ (a1.toNat : Int) = 45 := by omega
                  have s45a : ((a1.toNat : Int) == 45) = false := by simpa using s45
                  have s45b : ((a1.toNat : Int) != 45) = true := by simp [s45]
                  have s46 : ¬ (a1.toNat : Int) = 46 := by omega
                  have s46a : ((a1.toNat : Int) == 46) = false := by simpa using s46
                  have s46b : ((a1.toNat : Int) != 46) = true := by simp [s46]
                  have h3 : nbB (a1.toNat : Int) = false := by simp [nbB, ← hl, u1b, u2b, s95a, s45a, s46a]
                  have H3 := hid h3
                  clear h3 hl
                  subst ha1
                  clear u1 u2 s95 s45 s46
                  go_wp2_with (go_at_call 59; refine (HQ.out _).mono ?_; rintro e w' ⟨rfl, e1⟩; rw [e1]; clear e1 w')
                  go_ret
                  refine ⟨?_, rfl⟩
                  rw [HR.out, show nameB s = false by
                    simp only [nameB, decide_eq_false_iff_not]
                    rintro ⟨_, _, _, hall⟩
                    have := hall _ (List.mem_of_getElem? HA.out)
                    rw [H3.out] at this
                    cases this]
                  rfl
                · have u2a : decide ((57 : Int) < (a1.toNat : Int)) = false := by simp; omega
                  have u2b : decide ((a1.toNat : Int) ≤ 57) = true := by simp; omega
                  have h3 : nbB (a1.toNat : Int) = true := by simp [nbB, ← hl, u1b, u2b]
                  have H3 := hid h3
                  clear h3 hl
                  subst ha1
                  clear u1 u2
                  go_wp2_with (go_at_call 59; refine (HQ.out _).mono ?_; rintro e w' ⟨rfl, e1⟩; rw [e1]; clear e1 w')
                  go_roundw
                  case rel =>
                    refine ⟨k + 1, by omega, by go_num, (by first | rfl | trivial), hid ?_⟩
                    intro x hx
                    rw [List.take_add_one, HA.out] at hx
                    rcases List.mem_append.1 hx with h | h
                    · exact hpre.out x h
                    · simp at h; rw [h]; exact H3.out
                  case measure => simp [intOf]; omega
            · skip
              have h3 : nbB (a1.toNat : Int) = true := by simp [nbB, ← hl, Bool.or_true]
              have H3 := hid h3
              clear h3 hl
              subst ha1
              go_wp2_with (go_at_call 59; refine (HQ.out _).mono ?_; rintro e w' ⟨rfl, e1⟩; rw [e1]; clear e1 w')
              go_roundw
              case rel =>
                refine ⟨k + 1, by omega, by go_num, (by first | rfl | trivial), hid ?_⟩
                intro x hx
                rw [List.take_add_one, HA.out] at hx
                rcases List.mem_append.1 hx with h | h
                · exact hpre.out x h
                · simp at h; rw [h]; exact H3.out
              case measure => simp [intOf]; omega
          · have hall := hpre.out
            rw [List.take_of_length_le (by rw [strBs_len]; omega)] at hall
            have Hall := hid hall
            clear hall
            go_wp2
            go_ret
            refine ⟨?_, rfl⟩
            rw [HR.out, show nameB s = true by
              simp only [nameB, decide_eq_true_eq]
              exact ⟨HS.out.1, HS.out.2, by rw [HH.out]; exact HL.out, Hall.out⟩]
            rfl
      · have h2 : letB (a0.toNat : Int) = false := by simpa using h2
        have HH := hid hh
        have HL := hid h2
        clear h1 hh hs1 h2 h1'
        go_enter Try.func26, Try.ntmps26
        go_wp2_with (go_at_call 59; rw [← ha0]; refine (rletter_any (a0.toNat : Int) _).mono ?_; rintro e w' ⟨rfl, e1⟩; rw [e1, HL.out]; clear e1 w')
        go_ret
        refine ⟨?_, rfl⟩
        rw [HR.out, show nameB s = false by
          simp only [nameB, decide_eq_false_iff_not]
          rintro ⟨_, _, h, _⟩
          rw [HH.out, HL.out] at h
          cases h]
        rfl
    · have g1 : decide ((s.size : Int) < 1) = false := by simp; omega
      have g2 : decide ((32 : Int) < (s.size : Int)) = true := by simp; omega
      have hn : nameB s = false := by
        simp only [nameB, decide_eq_false_iff_not]
        rintro ⟨_, h, _⟩
        omega
      have HN := hid hn
      clear hn h1 h1'
      go_enter Try.func26, Try.ntmps26
      go_wp2
      go_ret
      exact ⟨by rw [HR.out, HN.out]; rfl, rfl⟩
  · have g1 : decide ((s.size : Int) < 1) = true := by simp; omega
    have hn : nameB s = false := by
      simp only [nameB, decide_eq_false_iff_not]
      rintro ⟨h, _⟩
      omega
    have HN := hid hn
    clear hn h1
    go_enter Try.func26, Try.ntmps26
    go_wp2
    go_ret
    exact ⟨by rw [HR.out, HN.out]; rfl, rfl⟩

end Go.Proofs.Ytljfmbjibjoiiaa

namespace Go.Proofs.Ytljfmbjibjoiiaa
open Go.RowKit

theorem rinstr_any (nm : ByteArray) (ar : Int) (b off len cap : Nat) (x : Ins) (n : Nat) (w : World)
    (h : InsAt w b (off + n * 8) x) (hlt : (n : Int) < (len : Int)) (hl : (len : Int) ≤ 1000000000) (hcap : (len : Int) ≤ (cap : Int)) (har : withinB ar 0 16 = true) :
    Calls Try.prog 27 #[.agg #[.string nm, .int .i64 ar, .slice (some ⟨b, off, none⟩) len cap], .int .i64 n] w
      fun e w' => e = .returned (.int .i64 (insErr x ar ((len : Int) - 1 - n))) ∧ Below w.heap.size w w' := by
  rw [← rinsErr_eq x ar _ har]
  exact rinstr_raw nm ar b off len cap x n w (fdS x.op) _ _ _ _ _ _ h hlt hl hcap (hid (rfields_any x.op)) (hid (rregister_any _ (fdS_len _) 65 x.a)) (hid (rregister_any _ (fdS_len _) 66 x.b)) (hid (rregister_any _ (fdS_len _) 67 x.c))
    (hid (rhas_any _ (fdS_len _) 97)) (hid (rhas_any _ (fdS_len _) 86)) (hid (rnumber_any nm ar (some ⟨b, off, none⟩) len cap x.op x.a x.b x.c x.n x.k x.i x.t))

/-- While it goes round. -/
structure Rck (w W : World) (nm : ByteArray) (ar : Int) (S : Value) : Prop where
  r0 : W.heap[w.heap.size]? = some (po nm ar S)
  hb : Below w.heap.size w W

theorem Rck.below {w W W' : World} {nm : ByteArray} {ar : Int} {S : Value} (h : Rck w W nm ar S) (hb : Below W.heap.size W W') : Rck w W' nm ar S :=
  ⟨blk_of hb h.r0 (lt_of h.r0), below_on h.hb hb⟩

theorem rck_start (w : World) (nm : ByteArray) (ar : Int) (S : Value) : Rck w (w.alloc (po nm ar S)) nm ar S := ⟨heap_alloc_new w _, below1 w _⟩

set_option maxRecDepth 100000 in
set_option maxHeartbeats 4000000 in
theorem rpcheck_any (nm : ByteArray) (ar : Int) (S : Value) (xs : List Ins) (w : World) (h : CodeAt w S xs) (hl : xs.length ≤ 1000000000) :
    Calls Try.prog 11 #[.agg #[.string nm, .int .i64 ar, S]] w fun e w' => e = .returned (.tuple #[.int .i64 (procChk nm ar xs).1, .int .i64 (procChk nm ar xs).2]) ∧ Below w.heap.size w w' := by
  obtain ⟨ao, cap, rfl, hcap, hcells⟩ := h
  obtain ⟨R1, R2, hR⟩ : ∃ R1 R2, procChk nm ar xs = (R1, R2) := ⟨_, _, rfl⟩
  rw [hR]
  dsimp only
  have HR := hid hR
  have HC := hid hcells
  have HN := hid (risName_any nm)
  clear hR hcells
  have hB0 := hid (below1 w (po nm ar (.slice ao xs.length cap)))
  by_cases h1 : nameB nm = true
  · rw [h1] at HN
    by_cases h2 : withinB ar 0 16 = true
    · have g1 : decide (ar < 0) = false := by simp [withinB] at h2; simp; omega
      have g2 : decide (16 < ar) = false := by simp [withinB] at h2; simp; omega
      by_cases h3 : xs.length ≤ 64
      · have HR2 := HR.out
        rw [procChk, if_pos h1, if_pos h2, if_pos h3] at HR2
        have H2 := hid HR2
        have HA := hid h2
        have h3' : (xs.length : Int) ≤ 64 := by omega
        have H1 := hid (rck_start w nm ar (.slice ao xs.length cap))
        have hl' : (xs.length : Int) ≤ 1000000000 := by omega
        have hcap' : (xs.length : Int) ≤ (cap : Int) := by omega
        clear HR2 HR h1 h2
        go_enter Try.func11, Try.ntmps11
        go_wp2_with (go_at_call 26; refine (HN.out _).mono ?_; rintro e w' ⟨rfl, e1⟩; rw [e1]; clear e1 w')
        go_loopw [5] (fun ix wr => ∃ (n : Nat), n ≤ xs.length ∧ ix = .int .i64 n ∧ Hid (Rck w wr nm ar (.slice ao xs.length cap)) ∧ Hid (codeChk ar xs.length n (xs.drop n) = (R1, R2))) (fun ix _ => xs.length - (intOf ix).toNat)
        case atStart => exact ⟨0, Nat.zero_le _, rfl, H1, hid H2.out⟩
        case round =>
          clear H1
          obtain ⟨n, hn, rfl, hP, hK⟩ := hrel
          by_cases hlt : n < xs.length
          · obtain ⟨x, hx⟩ : ∃ x, xs[n]? = some x := ⟨_, List.getElem?_eq_getElem hlt⟩
            obtain ⟨b, off, rfl, hat⟩ := HC.out (by intro e; rw [e] at hlt; simp at hlt)
            have hat := hat n x hx
            have hat2 := hat.same (hP.out.hb.block b hat.lt)
            have hdrop : xs.drop n = x :: xs.drop (n + 1) := by
              rw [List.drop_eq_getElem_cons hlt]
              congr 1
              have := List.getElem?_eq_getElem hlt
              rw [hx] at this
              exact (Option.some.inj this).symm
            rw [hdrop] at hK
            have hk2 := hK.out
            rw [codeChk] at hk2
            have hlt' : (n : Int) < (xs.length : Int) := by omega
            obtain ⟨p0, p1, p2, -⟩ := vfacts hP.out.r0
            have m1 := lt_of hP.out.r0
            have HI := hid (rinstr_any nm ar b off xs.length cap x n wr hat2 hlt' hl' hcap' HA.out)
            obtain ⟨E, hE⟩ : ∃ E, E = insErr x ar ((xs.length : Int) - 1 - n) := ⟨_, rfl⟩
            rw [← hE] at hk2 HI
            by_cases he : E = 0
            · rw [if_pos he] at hk2
              have HK2 := hid hk2
              subst he
              clear hk2 hK hdrop hx hat hat2 hE
              go_wp2_with (go_at_call 27
                           refine HI.out.mono ?_
                           rintro e w3 ⟨rfl, hb3⟩
                           have H3 := hid (hP.out.below hb3)
                           clear hb3)
              go_roundw
              case rel => exact ⟨n + 1, by omega, by go_num, H3, HK2⟩
              case measure => simp [intOf]; omega
            · rw [if_neg he] at hk2
              have he2 : (E == 0) = false := by simpa using he
              have he3 : (E != 0) = true := by simp [he]
              have HK2 := hid hk2
              clear hk2 hK hdrop hx hat hat2 hE he
              go_wp2_with (go_at_call 27
                           refine HI.out.mono ?_
                           rintro e w3 ⟨rfl, hb3⟩
                           have H3 := hid (hP.out.below hb3)
                           clear hb3)
              go_ret2
              have := HK2.out
              simp only [Prod.mk.injEq] at this
              obtain ⟨rfl, rfl⟩ := this
              exact ⟨rfl, H3.out.hb⟩
          · have hk2 := hK.out
            rw [List.drop_eq_nil_of_le (by omega), codeChk] at hk2
            have HK2 := hid hk2
            obtain ⟨p0, p1, p2, -⟩ := vfacts hP.out.r0
            clear hk2 hK
            go_wp2
            go_ret2
            have := HK2.out
            simp only [Prod.mk.injEq] at this
            obtain ⟨rfl, rfl⟩ := this
            exact ⟨rfl, hP.out.hb⟩
      · have HR2 := HR.out
        rw [procChk, if_pos h1, if_pos h2, if_neg h3] at HR2
        simp only [Prod.mk.injEq] at HR2
        obtain ⟨rfl, rfl⟩ := HR2
        have h3' : (64 : Int) < (xs.length : Int) := by omega
        clear HR h1 h2 h3
        go_enter Try.func11, Try.ntmps11
        go_wp2_with (go_at_call 26; refine (HN.out _).mono ?_; rintro e w' ⟨rfl, e1⟩; rw [e1]; clear e1 w')
        go_ret2
        exact ⟨rfl, hB0.out⟩
    · have HR2 := HR.out
      rw [procChk, if_pos h1, if_neg h2] at HR2
      simp only [Prod.mk.injEq] at HR2
      obtain ⟨rfl, rfl⟩ := HR2
      clear HR h1
      by_cases g : ar < 0
      · have g1 : decide (ar < 0) = true := by simpa using g
        clear h2 g
        go_enter Try.func11, Try.ntmps11
        go_wp2_with (go_at_call 26; refine (HN.out _).mono ?_; rintro e w' ⟨rfl, e1⟩; rw [e1]; clear e1 w')
        go_ret2
        exact ⟨rfl, hB0.out⟩
      · have g1 : decide (ar < 0) = false := by simpa using g
        have g2 : decide (16 < ar) = true := by simp [withinB] at h2; simp; omega
        clear h2 g
        go_enter Try.func11, Try.ntmps11
        go_wp2_with (go_at_call 26; refine (HN.out _).mono ?_; rintro e w' ⟨rfl, e1⟩; rw [e1]; clear e1 w')
        go_ret2
        exact ⟨rfl, hB0.out⟩
  · have HR2 := HR.out
    rw [procChk, if_neg h1] at HR2
    simp only [Prod.mk.injEq] at HR2
    obtain ⟨rfl, rfl⟩ := HR2
    have h1' : nameB nm = false := by simpa using h1
    rw [h1'] at HN
    clear HR h1 h1'
    go_enter Try.func11, Try.ntmps11
    go_wp2_with (go_at_call 26; refine (HN.out _).mono ?_; rintro e w' ⟨rfl, e1⟩; rw [e1]; clear e1 w')
    go_ret2
    exact ⟨rfl, hB0.out⟩

end Go.Proofs.Ytljfmbjibjoiiaa

namespace Go.Proofs.Ytljfmbjibjoiiaa
open Go.RowKit Go.Lib

/-- Behind the twin: the law's blocks, the twin's list with its marks. -/
structure Ckt (w W : World) (nm : ByteArray) (ar : Int) (S : Value) (x : Ins) (r g cap : Nat) (xs : List Ins) : Prop where
  st : Bst w W nm ar S x
  t : W.heap[r]? = some (po nm ar (.slice (some ⟨g, 0, none⟩) xs.length cap))
  co : CodeAt W S xs
  at_ : ∀ (j : Nat) (y : Ins), (xs ++ marks)[j]? = some y → InsAt W g (j * 8) y
  blk : ∃ cur, W.heap[g]? = some (.cells cur 28 (0, 0))
  new : w.heap.size + 1 < g ∧ w.heap.size + 1 < r ∧ g ≠ r

theorem Ckt.below {w W W' : World} {nm : ByteArray} {ar : Int} {S : Value} {x : Ins} {r g cap : Nat} {xs : List Ins} (h : Ckt w W nm ar S x r g cap xs) (hb : Below W.heap.size W W') : Ckt w W' nm ar S x r g cap xs := by
  obtain ⟨cur, hc⟩ := h.blk
  exact ⟨h.st.below hb, blk_of hb h.t (lt_of h.t), h.co.below hb, fun j y hy => (h.at_ j y hy).same (hb.block g (h.at_ j y hy).lt), ⟨cur, blk_of hb hc (lt_of hc)⟩, h.new⟩

theorem ckt_start {w W w1 : World} {nm : ByteArray} {ar : Int} {S : Value} {x : Ins} {g cap : Nat} {xs : List Ins} {cur : Array Value} (h : Bst w W nm ar S x) (hs : CodeAt W S xs) (hg : W.heap.size ≤ g) (hk : w1.heap[g]? = some (.cells cur 28 (0, 0)))
    (ha : ∀ (j : Nat) (y : Ins), (xs ++ marks)[j]? = some y → InsAt w1 g (j * 8) y) (hb : Below W.heap.size W w1) : Ckt w (w1.alloc (po nm ar (.slice (some ⟨g, 0, none⟩) xs.length cap))) nm ar S x w1.heap.size g cap xs := by
  have hb2 := below_on hb (below1 w1 (po nm ar (.slice (some ⟨g, 0, none⟩) xs.length cap)))
  have hl := lt_of h.r1
  have hl2 := lt_of hk
  have hl3 := hb.size
  exact ⟨h.below hb2, heap_alloc_new w1 _, hs.below hb2, fun j y hy => (ha j y hy).same ((below1 w1 _).block g (ha j y hy).lt), ⟨cur, blk_of (below1 w1 _) hk hl2⟩, by omega, by omega, by omega⟩

theorem Ckt.code {w W : World} {nm : ByteArray} {ar : Int} {S : Value} {x : Ins} {r g cap : Nat} {xs : List Ins} (h : Ckt w W nm ar S x r g cap xs) (hcap : xs.length ≤ cap) : CodeAt W (.slice (some ⟨g, 0, none⟩) xs.length cap) xs := tw_code hcap h.at_

/-- Behind the store. -/
structure Ck2 (w W : World) (nm : ByteArray) (ar : Int) (r : Nat) (S2 : Value) (ys : List Ins) : Prop where
  t : W.heap[r]? = some (po nm ar S2)
  co : CodeAt W S2 ys
  hb : Below w.heap.size w W

theorem Ck2.below {w W W' : World} {nm : ByteArray} {ar : Int} {r : Nat} {S2 : Value} {ys : List Ins} (h : Ck2 w W nm ar r S2 ys) (hb : Below W.heap.size W W') : Ck2 w W' nm ar r S2 ys :=
  ⟨blk_of hb h.t (lt_of h.t), h.co.below hb, below_on h.hb hb⟩

theorem ck2_start {w W : World} {nm : ByteArray} {ar : Int} {S : Value} {x : Ins} {r g cap cN : Nat} {xs : List Ins} (h : Ckt w W nm ar S x r g cap xs) (hcap : xs.length ≤ cap) (hlt : cN < xs.length) :
    Ck2 w (put8 W g (cN * 8) x) nm ar r (.slice (some ⟨g, 0, none⟩) xs.length cap) (xs.set cN x) := by
  have k := put8_kept W g (cN * 8) x
  refine ⟨(k.block _ (lt_of h.t) h.new.2.2.symm).trans h.t, put8_code hcap (fun j y hy => h.at_ j y (by rw [List.getElem?_append_left (List.getElem?_eq_some_iff.1 hy).1]; exact hy)) hlt, h.st.hb.trans (k.below h.st.hb.size (fun q hq e => by have := h.new.1; omega))⟩

set_option maxRecDepth 100000 in
set_option maxHeartbeats 8000000 in
theorem checks_ok (nm : ByteArray) (ar : Int) (S : Value) (xs : List Ins) (x : Ins) (i : Int) (w : World) (h : Rf w 8 S xs.length (xs.flatMap Ins.cells)) (hl : (xs.length : Int) ≤ 65536) :
    Calls Try.prog 3 #[.agg #[.string nm, .int .i64 ar, S], x.val, .int .i64 i] w fun x w' => x = .returned (.bool true) ∧ Below w.heap.size w w' := by
  obtain ⟨E1, E, hR⟩ : ∃ R1 R2, procChk nm ar xs = (R1, R2) := ⟨_, _, rfl⟩
  have HC := hid (fun S W hW => pcheck_any nm ar S xs W hW (by omega))
  have HD := hid (fun S W hW => rpcheck_any nm ar S xs W hW (by omega))
  rw [hR] at HC HD
  dsimp only at HC HD
  have HH := hid (code_of_rf h)
  have HRF := hid h
  have HTW := hid (fun W hW => twin_any nm ar S xs W hW hl)
  unfold TwPost at HTW
  obtain ⟨ao, cap, rfl, _, _⟩ := h.shape
  have H0 := hid (bst_start w nm ar (.slice ao xs.length cap) x)
  unfold Ins.val
  clear h hR
  go_enter Try.func3, Try.ntmps3
  go_upto_region 8 with (first
    | (go_at_call 9
       refine (HTW.out _ (HRF.out.below H0.out.hb)).mono ?_
       rintro e w1 ⟨g, c1, cur, rfl, hc1, hg1, hblk1, hco1, hb1⟩
       have H1 := hid (ckt_start (cap := c1) H0.out (HH.out.below H0.out.hb) hg1 hblk1 hco1 hb1)
       have hc1' : (xs.length : Int) + 9 ≤ (c1 : Int) := by omega
       obtain ⟨p0, p1', p2', -⟩ := vfacts H1.out.st.r0
       obtain ⟨t0, t1, t2, -⟩ := vfacts H1.out.t
       clear hc1 hg1 hblk1 hco1 hb1)
    | (go_at_call 10
       refine (HC.out _ _ (H1.out.code (by omega))).mono ?_
       rintro e w2 ⟨rfl, hb2⟩
       have H2 := hid (H1.out.below hb2)
       obtain ⟨p0, p1', p2', -⟩ := vfacts H2.out.st.r0
       obtain ⟨t0, t1, t2, -⟩ := vfacts H2.out.t
       clear hb2)
    | (go_at_call 11
       refine (HD.out _ _ H2.out.co).mono ?_
       rintro e w3 ⟨rfl, hb3⟩
       have H3 := hid (H2.out.below hb3)
       obtain ⟨p0, p1', p2', -⟩ := vfacts H3.out.st.r0
       obtain ⟨t0, t1, t2, -⟩ := vfacts H3.out.t
       clear hb3)
    | (go_at_call 12
       refine (stands_any nm ar g c1 _ xs w3 (by omega) H3.out.at_ H3.out.co hl).mono ?_
       rintro e w4 ⟨rfl, hb4⟩
       have H4 := hid (H3.out.below hb4)
       obtain ⟨p0, p1', p2', -⟩ := vfacts H4.out.st.r0
       obtain ⟨t0, t1, t2, -⟩ := vfacts H4.out.t
       clear hb4))
  clear H0 H1 H2 H3 HC HD HTW
  by_cases hnil : xs = []
  · subst hnil
    go_wp2_with (first
      | (go_at_call 13
         refine (known_any _).mono ?_
         rintro e w5 ⟨rfl, hb5⟩
         have H5 := hid (below_on H4.out.st.hb hb5)
         clear hb5))
    go_ret
    exact ⟨rfl, H5.out⟩
  have hpos : 0 < xs.length := List.length_pos_iff.2 hnil
  have hpos' : (0 : Int) < (xs.length : Int) := by omega
  have hz0 : ((xs.length : Int) == 0) = false := by simp; exact hnil
  have htb : -(xs.length : Int) < i.tmod xs.length ∧ i.tmod xs.length < xs.length := by
    have h1 : (i.tmod xs.length).natAbs < xs.length := by
      rw [Int.natAbs_tmod]
      exact Nat.mod_lt _ hpos
    omega
  have HTB := hid htb
  clear htb hnil
  by_cases hneg : i.tmod xs.length < 0
  · obtain ⟨cN, hwr, hcN⟩ : ∃ c : Nat, wrap64 (i.tmod xs.length + xs.length) = c ∧ c < xs.length := by
      have := HTB.out
      refine ⟨(i.tmod xs.length + xs.length).toNat, ?_, by omega⟩
      unfold wrap64
      omega
    have HWR := hid hwr
    clear hwr
    go_upto_region 13 with fail
    rw [HWR.out]
    clear hneg
    obtain ⟨y, hy⟩ : ∃ y, xs[cN]? = some y := ⟨_, List.getElem?_eq_getElem hcN⟩
    obtain ⟨x0, x1, x2, x3, x4, x5, x6, x7, -⟩ := vfacts8 H4.out.st.r1
    obtain ⟨y0, y1, y2, y3, y4, y5, y6, y7⟩ := H4.out.at_ cN y (by rw [List.getElem?_append_left hcN]; exact hy)
    obtain ⟨cur, hcur⟩ := H4.out.blk
    have gz : ∀ q, w4.frozen? ⟨g, q, none⟩ = false := fun q => by simp [World.frozen?, hcur]
    have kg := lt_of hcur
    have hcc : (cN : Int) < (xs.length : Int) := by omega
    clear hy hcur
    go_upto_region 14 with fail
    refine cutG (fun W => Ck2 w W nm ar w1.heap.size (.slice (some ⟨g, 0, none⟩) xs.length c1) (xs.set cN x)) (ck2_start H4.out (by omega) hcN) ?_
    intro W0 H6
    have H6 := hid H6
    obtain ⟨t0, t1, t2, -⟩ := vfacts H6.out.t
    obtain ⟨F1, F, hF⟩ : ∃ R1 R2, procChk nm ar (xs.set cN x) = (R1, R2) := ⟨_, _, rfl⟩
    have HC2 := hid (fun S W hW => pcheck_any nm ar S (xs.set cN x) W hW (by rw [List.length_set]; omega))
    have HD2 := hid (fun S W hW => rpcheck_any nm ar S (xs.set cN x) W hW (by rw [List.length_set]; omega))
    rw [hF] at HC2 HD2
    dsimp only at HC2 HD2
    clear hF H4 x0 x1 x2 x3 x4 x5 x6 x7 y0 y1 y2 y3 y4 y5 y6 y7 gz kg
    go_wp2_with (first
      | (go_at_call 10
         refine (HC2.out _ _ H6.out.co).mono ?_
         rintro e w7 ⟨rfl, hb7⟩
         have H7 := hid (H6.out.below hb7)
         obtain ⟨t0, t1, t2, -⟩ := vfacts H7.out.t
         clear hb7)
      | (go_at_call 11
         refine (HD2.out _ _ H7.out.co).mono ?_
         rintro e w8 ⟨rfl, hb8⟩
         have H8 := hid (H7.out.below hb8)
         clear hb8)
      | (go_at_call 13
         refine (known_any _).mono ?_
         rintro e w9 ⟨rfl, hb9⟩
         have H9 := hid (below_on H8.out.hb hb9)
         clear hb9))
    go_ret
    exact ⟨rfl, H9.out⟩
  · obtain ⟨cN, hwr, hcN⟩ : ∃ c : Nat, i.tmod xs.length = c ∧ c < xs.length := by
      have := HTB.out
      exact ⟨(i.tmod xs.length).toNat, by omega, by omega⟩
    have HWR := hid hwr
    clear hwr
    go_upto_region 13 with fail
    rw [HWR.out]
    clear hneg
    obtain ⟨y, hy⟩ : ∃ y, xs[cN]? = some y := ⟨_, List.getElem?_eq_getElem hcN⟩
    obtain ⟨x0, x1, x2, x3, x4, x5, x6, x7, -⟩ := vfacts8 H4.out.st.r1
    obtain ⟨y0, y1, y2, y3, y4, y5, y6, y7⟩ := H4.out.at_ cN y (by rw [List.getElem?_append_left hcN]; exact hy)
    obtain ⟨cur, hcur⟩ := H4.out.blk
    have gz : ∀ q, w4.frozen? ⟨g, q, none⟩ = false := fun q => by simp [World.frozen?, hcur]
    have kg := lt_of hcur
    have hcc : (cN : Int) < (xs.length : Int) := by omega
    clear hy hcur
    go_upto_region 14 with fail
    refine cutG (fun W => Ck2 w W nm ar w1.heap.size (.slice (some ⟨g, 0, none⟩) xs.length c1) (xs.set cN x)) (ck2_start H4.out (by omega) hcN) ?_
    intro W0 H6
    have H6 := hid H6
    obtain ⟨t0, t1, t2, -⟩ := vfacts H6.out.t
    obtain ⟨F1, F, hF⟩ : ∃ R1 R2, procChk nm ar (xs.set cN x) = (R1, R2) := ⟨_, _, rfl⟩
    have HC2 := hid (fun S W hW => pcheck_any nm ar S (xs.set cN x) W hW (by rw [List.length_set]; omega))
    have HD2 := hid (fun S W hW => rpcheck_any nm ar S (xs.set cN x) W hW (by rw [List.length_set]; omega))
    rw [hF] at HC2 HD2
    dsimp only at HC2 HD2
    clear hF H4 x0 x1 x2 x3 x4 x5 x6 x7 y0 y1 y2 y3 y4 y5 y6 y7 gz kg
    go_wp2_with (first
      | (go_at_call 10
         refine (HC2.out _ _ H6.out.co).mono ?_
         rintro e w7 ⟨rfl, hb7⟩
         have H7 := hid (H6.out.below hb7)
         obtain ⟨t0, t1, t2, -⟩ := vfacts H7.out.t
         clear hb7)
      | (go_at_call 11
         refine (HD2.out _ _ H7.out.co).mono ?_
         rintro e w8 ⟨rfl, hb8⟩
         have H8 := hid (H7.out.below hb8)
         clear hb8)
      | (go_at_call 13
         refine (known_any _).mono ?_
         rintro e w9 ⟨rfl, hb9⟩
         have H9 := hid (below_on H8.out.hb hb9)
         clear hb9))
    go_ret
    exact ⟨rfl, H9.out⟩

end Go.Proofs.Ytljfmbjibjoiiaa

namespace Go.Proofs.Ytljfmbjibjoiiaa
open Go.RowKit

/-- A Writer of the document, answered. -/
def RWPost (w : World) (v0 : Value) (bs : List Int) (e : Int) (x : Ending) (w' : World) : Prop := ∃ v, x = .returned (.agg #[v, .int .i64 e]) ∧ Sn w' v bs ∧ Below w.heap.size w w' ∧ (v = v0 ∨ ∀ k, v.ownBlock = some k → w.heap.size ≤ k ∧ k < w'.heap.size)

theorem Sn.form {w : World} {v : Value} {bs : List Int} (h : Sn w v bs) : ∃ ao c, v = .slice ao bs.length c := by
  obtain ⟨⟨ao, cap, rfl, _⟩, _⟩ := h
  exact ⟨_, _, rfl⟩

set_option maxRecDepth 100000 in
set_option maxHeartbeats 1600000 in
theorem rlaid_stop (v vb : Value) (bs : List Int) (e : Int) (w : World) (h : Sn w v bs) (he : e ≠ 0) :
    Calls Try.prog 69 #[.agg #[v, .int .i64 e], vb] w fun x w' => RWPost w v bs e x w' := by
  have he2 : (e != 0) = true := by simpa using he
  obtain ⟨ao, c, rfl⟩ := h.form
  have H := hid h
  clear h he
  go_enter Try.func69, Try.ntmps69
  go_wp2
  refine bodyPost_ret (v := .agg #[.slice ao bs.length c, .int .i64 e]) (by simp [results, Try.results69, go_sem]) rfl ?_
  exact ⟨_, rfl, (H.out.alloc _).alloc _, ((Below.refl _ _).alloc (Nat.le_refl _) _).alloc (by simp) _, .inl rfl⟩

set_option maxRecDepth 100000 in
set_option maxHeartbeats 1600000 in
theorem rlaid_ok (v vb : Value) (bs xs : List Int) (w : World) (h : Sn w v bs) (hb : Sn w vb xs) (hl : bs.length + xs.length ≤ 10000000000) :
    Calls Try.prog 69 #[.agg #[v, .int .i64 0], vb] w fun x w' => RWPost w v (bs ++ xs) 0 x w' := by
  obtain ⟨ao, c, rfl⟩ := h.form
  have H := hid h
  have HB := hid hb
  clear h hb
  go_enter Try.func69, Try.ntmps69
  go_wp2_with (at_builtin; refine wpList_append_sn _ rfl (.tmp 10) (.tmp 12) rfl (w.heap.size + 2) (.slice none 0 0) 0 [] rfl (World.ownsRow_nil _ _ _ _) _ bs rfl ((H.out.alloc _).alloc _) (by omega) (by simp) ?_)
  intro ao1 c1 w1 ho1 hg1
  have hz1 := hg1.size
  have q0 : w1.heap[w.heap.size]? = some (.cells #[.slice ao bs.length c, .int .i64 0] 74 (0, 0)) := by
    rw [hg1.block _ (by simp; omega) (by simp [Value.ownBlock]), Below.heap_alloc _ _ _ (by simp)]
    exact heap_alloc_new w _
  have q1 : w1.heap[w.heap.size + 1]? = some (.cells #[.slice none 0 0, .int .i64 0] 74 (0, 0)) := by
    rw [hg1.block _ (by simp) (by simp [Value.ownBlock])]
    have := heap_alloc_new (w.alloc (.cells #[.slice ao bs.length c, .int .i64 0] 74)) (.cells #[.slice none 0 0, .int .i64 0] 74)
    simpa using this
  have hbel : Below w.heap.size w w1 := (((Below.refl _ _).alloc (Nat.le_refl _) _).alloc (by simp) _).grown hg1 (by simp; omega) (by intro k hk; simp [Value.ownBlock] at hk)
  have Q0 := hid q0
  have Q1 := hid q1
  have HB1 := hid (HB.out.below hbel)
  simp at hz1
  clear q0 q1 hg1 HB H
  go_wp2_with (at_builtin; refine wpList_append_sn _ rfl (.tmp 14) (.tmp 15) rfl (w.heap.size + 2) _ bs.length bs rfl ho1 _ xs rfl HB1.out (by omega) (by omega) ?_)
  intro ao2 c2 w2 ho2 hg2
  have hlo := ho1.lt
  have r0 : w2.heap[w.heap.size]? = some (.cells #[.slice ao bs.length c, .int .i64 0] 74 (0, 0)) := by
    rw [hg2.block _ (by omega) (fun h => by have := hlo _ h.symm; omega)]
    exact Q0.out
  have r1 : w2.heap[w.heap.size + 1]? = some (.cells #[.slice none 0 0, .int .i64 0] 74 (0, 0)) := by
    rw [hg2.block _ (by omega) (fun h => by have := hlo _ h.symm; omega)]
    exact Q1.out
  have hb2 : Below w.heap.size w w2 := hbel.grown hg2 (by omega) (fun k hk => by have := hlo k hk; omega)
  obtain ⟨d0, d1⟩ := cell_of_pair r0
  obtain ⟨d2, d3⟩ := cell_of_pair r1
  have z0 := free_of_block (o := 0) r0
  have z1 := free_of_block (o := 0) r1
  have z2 := free_of_block (o := 1) r1
  have HO := hid ho2
  have hne : (w.heap.size : Nat) ≠ w.heap.size + 1 := by omega
  clear hg2 ho1 ho2 hlo Q0 Q1 HB1 hbel r0 r1
  go_wp2
  have hk : Kept (fun k => k = w.heap.size ∨ k = w.heap.size + 1) w2 (((w2.setCell ⟨w.heap.size, 0, none⟩ (.slice ao2 (bs.length + xs.length) c2)).setCell ⟨w.heap.size + 1, 0, none⟩ (.slice ao2 (bs.length + xs.length) c2)).setCell ⟨w.heap.size + 1, 1, none⟩ (.int .i64 0)) :=
    (((Kept.refl (fun k => k = w.heap.size ∨ k = w.heap.size + 1) w2).setCell (fun _ => .inl rfl) _).setCell (fun _ => .inr rfl) _).setCell (fun _ => .inr rfl) _
  have ho3 : w2.ownsRow (w.heap.size + 2) 5 1 (.slice ao2 (bs.length + xs.length) c2) (bs.length + xs.length) (B8 (bs ++ xs)) := by
    have := HO.out
    simpa [B8] using this
  refine bodyPost_ret (v := .agg #[.slice ao2 (bs.length + xs.length) c2, .int .i64 0]) (by simp [results, Try.results69, go_sem, d2, d3]) rfl ?_
  refine ⟨_, rfl, ?_, ?_, .inr (fun k hk2 => by have h1 := ho3.lt k hk2; have h2 := hk.size; omega)⟩
  · exact (sn_of_owns ho3).kept hk (fun k h1 h2 => by have := ho3.lt k h1; omega)
  · exact ((hb2.setCell (Nat.le_refl _) _).setCell (by simp) _).setCell (by simp) _

end Go.Proofs.Ytljfmbjibjoiiaa
