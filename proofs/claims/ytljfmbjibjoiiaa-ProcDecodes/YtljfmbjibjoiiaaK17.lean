import Derived.Test.YtljfmbjibjoiiaaK15
import Derived.Test.YtljfmbjibjoiiaaK16
import Derived.Test.YtljfmbjibjoiiaaK05
import Derived.Test.YtljfmbjibjoiiaaK01
import Derived.Test.YtljfmbjibjoiiaaK02
import Derived.Laws.AppendOwnNone
namespace Go.Proofs.Ytljfmbjibjoiiaa
open Go.RowKit

set_option maxRecDepth 100000 in
set_option maxHeartbeats 8000000 in
theorem risName_any (s : ByteArray) (w : World) : Calls Try.prog 26 #[.string s] w fun x w' => x = .returned (.bool (nameB s)) ∧ w' = w := by
  obtain ⟨r, hr⟩ : ∃ r, r = nameB s := ⟨_, rfl⟩
  rw [← hr]
  have HR := hid hr
  clear hr
  by_cases h1 : 1 ≤ s.size
  · by_cases h1' : s.size ≤ 32
    · have hs2 : 0 < s.size := by omega
      obtain ⟨a0, ha0⟩ : ∃ a0 : UInt8, a0 = s[0]'hs2 := ⟨_, rfl⟩
      have hh := strBs_head s hs2
      rw [← ha0] at hh
      have g1 : decide ((s.size : Int) < 1) = false := by simp; omega
      have g2 : decide ((32 : Int) < (s.size : Int)) = false := by simp; omega
      have hs1 : 1 ≤ s.size ∧ s.size ≤ 32 := ⟨h1, h1'⟩
      have hsz : s.size ≤ 32 := h1'
      by_cases h2 : letB (a0.toNat : Int) = true
      · have HH := hid hh
        have HS := hid hs1
        have HL := hid h2
        clear h1 hh hs1 h2 h1'
        go_enter Try.func26, Try.ntmps26
        go_wp2_with (go_at_call 59; rw [← ha0]; refine (rletter_any (a0.toNat : Int) _).mono ?_; rintro e w' ⟨rfl, e1⟩; rw [e1, HL.out]; clear e1 w')
        go_loopw [3] (fun i wr => ∃ (k : Nat), k ≤ s.size ∧ i = .int .i64 k ∧ wr = w ∧ Hid (∀ x ∈ (strBs s).take k, nbB x = true)) (fun i _ => s.size - (intOf i).toNat)
        case atStart => exact ⟨0, Nat.zero_le _, rfl, rfl, hid (by simp)⟩
        case round =>
          obtain ⟨k, hk, rfl, rfl, hpre⟩ := hrel
          by_cases hlt : k < s.size
          · obtain ⟨a1, ha1⟩ : ∃ a1 : UInt8, a1 = s[k]'hlt := ⟨_, rfl⟩
            have HA := hid (strBs_at s k hlt)
            rw [← ha1] at HA
            obtain ⟨l, hl⟩ : ∃ l, l = letB (a1.toNat : Int) := ⟨_, rfl⟩
            have HQ := hid (rletter_any (a1.toNat : Int))
            rw [← hl] at HQ
            cases l
            · skip
              by_cases u1 : (a1.toNat : Int) < 48
              · have u1a : decide ((a1.toNat : Int) < 48) = true := by simpa using u1
                have u1b : decide ((48 : Int) ≤ (a1.toNat : Int)) = false := by simp; omega
                have s95 : ¬ (a1.toNat : Int) = 95 := by omega
                have s95a : ((a1.toNat : Int) == 95) = false := by simpa using s95
                have s95b : ((a1.toNat : Int) != 95) = true := by simp [s95]
                by_cases s45 : (a1.toNat : Int) = 45
                · have s45a : ((a1.toNat : Int) == 45) = true := by simpa using s45
                  have s45b : ((a1.toNat : Int) != 45) = false := by simp [s45]
                  have h3 : nbB (a1.toNat : Int) = true := by simp [nbB, ← hl, u1b, s95a, s45a]
                  have H3 := hid h3
                  clear h3 hl
                  subst ha1
                  clear u1 s95 s45
                  go_wp2_with (go_at_call 59; refine (HQ.out _).mono ?_; rintro e w' ⟨rfl, e1⟩; rw [e1]; clear e1 w')
                  go_roundw
                  case rel =>
                    refine ⟨k + 1, by omega, by go_num, (by first | rfl | trivial), hid ?_⟩
                    intro x hx
                    rw [List.take_add_one, HA.out] at hx
                    rcases List.mem_append.1 hx with h | h
                    · exact hpre.out x h
                    · simp at h; rw [h]; exact H3.out
                  case measure => simp [intOf]; omega
                have s45a : ((a1.toNat : Int) == 45) = false := by simpa using s45
                have s45b : ((a1.toNat : Int) != 45) = true := by simp [s45]
                by_cases s46 : (a1.toNat : Int) = 46
                · have s46a : ((a1.toNat : Int) == 46) = true := by simpa using s46
                  have s46b : ((a1.toNat : Int) != 46) = false := by simp [s46]
                  have h3 : nbB (a1.toNat : Int) = true := by simp [nbB, ← hl, u1b, s95a, s45a, s46a]
                  have H3 := hid h3
                  clear h3 hl
                  subst ha1
                  clear u1 s95 s45 s46
                  go_wp2_with (go_at_call 59; refine (HQ.out _).mono ?_; rintro e w' ⟨rfl, e1⟩; rw [e1]; clear e1 w')
                  go_roundw
                  case rel =>
                    refine ⟨k + 1, by omega, by go_num, (by first | rfl | trivial), hid ?_⟩
                    intro x hx
                    rw [List.take_add_one, HA.out] at hx
                    rcases List.mem_append.1 hx with h | h
                    · exact hpre.out x h
                    · simp at h; rw [h]; exact H3.out
                  case measure => simp [intOf]; omega
                have s46a : ((a1.toNat : Int) == 46) = false := by simpa using s46
                have s46b : ((a1.toNat : Int) != 46) = true := by simp [s46]
                have h3 : nbB (a1.toNat : Int) = false := by simp [nbB, ← hl, u1b, s95a, s45a, s46a]
                have H3 := hid h3
                clear h3 hl
                subst ha1
                clear u1 s95 s45 s46
                go_wp2_with (go_at_call 59; refine (HQ.out _).mono ?_; rintro e w' ⟨rfl, e1⟩; rw [e1]; clear e1 w')
                go_ret
                refine ⟨?_, rfl⟩
                rw [HR.out, show nameB s = false by
                  simp only [nameB, decide_eq_false_iff_not]
                  rintro ⟨_, _, _, hall⟩
                  have := hall _ (List.mem_of_getElem? HA.out)
                  rw [H3.out] at this
                  cases this]
                rfl
              · have u1a : decide ((a1.toNat : Int) < 48) = false := by simp; omega
                have u1b : decide ((48 : Int) ≤ (a1.toNat : Int)) = true := by simp; omega
                by_cases u2 : (57 : Int) < (a1.toNat : Int)
                · have u2a : decide ((57 : Int) < (a1.toNat : Int)) = true := by simpa using u2
                  have u2b : decide ((a1.toNat : Int) ≤ 57) = false := by simp; omega
                  by_cases s95 : (a1.toNat : Int) = 95
                  · have s95a : ((a1.toNat : Int) == 95) = true := by simpa using s95
                    have s95b : ((a1.toNat : Int) != 95) = false := by simp [s95]
                    have h3 : nbB (a1.toNat : Int) = true := by simp [nbB, ← hl, u1b, u2b, s95a]
                    have H3 := hid h3
                    clear h3 hl
                    subst ha1
                    clear u1 u2 s95
                    go_wp2_with (go_at_call 59; refine (HQ.out _).mono ?_; rintro e w' ⟨rfl, e1⟩; rw [e1]; clear e1 w')
                    go_roundw
                    case rel =>
                      refine ⟨k + 1, by omega, by go_num, (by first | rfl | trivial), hid ?_⟩
                      intro x hx
                      rw [List.take_add_one, HA.out] at hx
                      rcases List.mem_append.1 hx with h | h
                      · exact hpre.out x h
                      · simp at h; rw [h]; exact H3.out
                    case measure => simp [intOf]; omega
                  have s95a : ((a1.toNat : Int) == 95) = false := by simpa using s95
                  have s95b : ((a1.toNat : Int) != 95) = true := by simp [s95]
                  have s45 : ¬ (a1.toNat : Int) = 45 := by omega
                  have s45a : ((a1.toNat : Int) == 45) = false := by simpa using s45
                  have s45b : ((a1.toNat : Int) != 45) = true := by simp [s45]
                  have s46 : ¬ (a1.toNat : Int) = 46 := by omega
                  have s46a : ((a1.toNat : Int) == 46) = false := by simpa using s46
                  have s46b : ((a1.toNat : Int) != 46) = true := by simp [s46]
                  have h3 : nbB (a1.toNat : Int) = false := by simp [nbB, ← hl, u1b, u2b, s95a, s45a, s46a]
                  have H3 := hid h3
                  clear h3 hl
                  subst ha1
                  clear u1 u2 s95 s45 s46
                  go_wp2_with (go_at_call 59; refine (HQ.out _).mono ?_; rintro e w' ⟨rfl, e1⟩; rw [e1]; clear e1 w')
                  go_ret
                  refine ⟨?_, rfl⟩
                  rw [HR.out, show nameB s = false by
                    simp only [nameB, decide_eq_false_iff_not]
                    rintro ⟨_, _, _, hall⟩
                    have := hall _ (List.mem_of_getElem? HA.out)
                    rw [H3.out] at this
                    cases this]
                  rfl
                · have u2a : decide ((57 : Int) < (a1.toNat : Int)) = false := by simp; omega
                  have u2b : decide ((a1.toNat : Int) ≤ 57) = true := by simp; omega
                  have h3 : nbB (a1.toNat : Int) = true := by simp [nbB, ← hl, u1b, u2b]
                  have H3 := hid h3
                  clear h3 hl
                  subst ha1
                  clear u1 u2
                  go_wp2_with (go_at_call 59; refine (HQ.out _).mono ?_; rintro e w' ⟨rfl, e1⟩; rw [e1]; clear e1 w')
                  go_roundw
                  case rel =>
                    refine ⟨k + 1, by omega, by go_num, (by first | rfl | trivial), hid ?_⟩
                    intro x hx
                    rw [List.take_add_one, HA.out] at hx
                    rcases List.mem_append.1 hx with h | h
                    · exact hpre.out x h
                    · simp at h; rw [h]; exact H3.out
                  case measure => simp [intOf]; omega
            · skip
              have h3 : nbB (a1.toNat : Int) = true := by simp [nbB, ← hl, Bool.or_true]
              have H3 := hid h3
              clear h3 hl
              subst ha1
              go_wp2_with (go_at_call 59; refine (HQ.out _).mono ?_; rintro e w' ⟨rfl, e1⟩; rw [e1]; clear e1 w')
              go_roundw
              case rel =>
                refine ⟨k + 1, by omega, by go_num, (by first | rfl | trivial), hid ?_⟩
                intro x hx
                rw [List.take_add_one, HA.out] at hx
                rcases List.mem_append.1 hx with h | h
                · exact hpre.out x h
                · simp at h; rw [h]; exact H3.out
              case measure => simp [intOf]; omega
          · have hall := hpre.out
            rw [List.take_of_length_le (by rw [strBs_len]; omega)] at hall
            have Hall := hid hall
            clear hall
            go_wp2
            go_ret
            refine ⟨?_, rfl⟩
            rw [HR.out, show nameB s = true by
              simp only [nameB, decide_eq_true_eq]
              exact ⟨HS.out.1, HS.out.2, by rw [HH.out]; exact HL.out, Hall.out⟩]
            rfl
      · have h2 : letB (a0.toNat : Int) = false := by simpa using h2
        have HH := hid hh
        have HL := hid h2
        clear h1 hh hs1 h2 h1'
        go_enter Try.func26, Try.ntmps26
        go_wp2_with (go_at_call 59; rw [← ha0]; refine (rletter_any (a0.toNat : Int) _).mono ?_; rintro e w' ⟨rfl, e1⟩; rw [e1, HL.out]; clear e1 w')
        go_ret
        refine ⟨?_, rfl⟩
        rw [HR.out, show nameB s = false by
          simp only [nameB, decide_eq_false_iff_not]
          rintro ⟨_, _, h, _⟩
          rw [HH.out, HL.out] at h
          cases h]
        rfl
    · have g1 : decide ((s.size : Int) < 1) = false := by simp; omega
      have g2 : decide ((32 : Int) < (s.size : Int)) = true := by simp; omega
      have hn : nameB s = false := by
        simp only [nameB, decide_eq_false_iff_not]
        rintro ⟨_, h, _⟩
        omega
      have HN := hid hn
      clear hn h1 h1'
      go_enter Try.func26, Try.ntmps26
      go_wp2
      go_ret
      exact ⟨by rw [HR.out, HN.out]; rfl, rfl⟩
  · have g1 : decide ((s.size : Int) < 1) = true := by simp; omega
    have hn : nameB s = false := by
      simp only [nameB, decide_eq_false_iff_not]
      rintro ⟨h, _⟩
      omega
    have HN := hid hn
    clear hn h1
    go_enter Try.func26, Try.ntmps26
    go_wp2
    go_ret
    exact ⟨by rw [HR.out, HN.out]; rfl, rfl⟩

end Go.Proofs.Ytljfmbjibjoiiaa

namespace Go.Proofs.Ytljfmbjibjoiiaa
open Go.RowKit

theorem rinstr_any (nm : ByteArray) (ar : Int) (b off len cap : Nat) (x : Ins) (n : Nat) (w : World)
    (h : InsAt w b (off + n * 8) x) (hlt : (n : Int) < (len : Int)) (hl : (len : Int) ≤ 1000000000) (hcap : (len : Int) ≤ (cap : Int)) (har : withinB ar 0 16 = true) :
    Calls Try.prog 27 #[.agg #[.string nm, .int .i64 ar, .slice (some ⟨b, off, none⟩) len cap], .int .i64 n] w
      fun e w' => e = .returned (.int .i64 (insErr x ar ((len : Int) - 1 - n))) ∧ Below w.heap.size w w' := by
  rw [← rinsErr_eq x ar _ har]
  exact rinstr_raw nm ar b off len cap x n w (fdS x.op) _ _ _ _ _ _ h hlt hl hcap (hid (rfields_any x.op)) (hid (rregister_any _ (fdS_len _) 65 x.a)) (hid (rregister_any _ (fdS_len _) 66 x.b)) (hid (rregister_any _ (fdS_len _) 67 x.c))
    (hid (rhas_any _ (fdS_len _) 97)) (hid (rhas_any _ (fdS_len _) 86)) (hid (rnumber_any nm ar (some ⟨b, off, none⟩) len cap x.op x.a x.b x.c x.n x.k x.i x.t))

/-- While it goes round. -/
structure Rck (w W : World) (nm : ByteArray) (ar : Int) (S : Value) : Prop where
  r0 : W.heap[w.heap.size]? = some (po nm ar S)
  hb : Below w.heap.size w W

theorem Rck.below {w W W' : World} {nm : ByteArray} {ar : Int} {S : Value} (h : Rck w W nm ar S) (hb : Below W.heap.size W W') : Rck w W' nm ar S :=
  ⟨blk_of hb h.r0 (lt_of h.r0), below_on h.hb hb⟩

theorem rck_start (w : World) (nm : ByteArray) (ar : Int) (S : Value) : Rck w (w.alloc (po nm ar S)) nm ar S := ⟨heap_alloc_new w _, below1 w _⟩

set_option maxRecDepth 100000 in
set_option maxHeartbeats 4000000 in
theorem rpcheck_any (nm : ByteArray) (ar : Int) (S : Value) (xs : List Ins) (w : World) (h : CodeAt w S xs) (hl : xs.length ≤ 1000000000) :
    Calls Try.prog 11 #[.agg #[.string nm, .int .i64 ar, S]] w fun e w' => e = .returned (.tuple #[.int .i64 (procChk nm ar xs).1, .int .i64 (procChk nm ar xs).2]) ∧ Below w.heap.size w w' := by
  obtain ⟨ao, cap, rfl, hcap, hcells⟩ := h
  obtain ⟨R1, R2, hR⟩ : ∃ R1 R2, procChk nm ar xs = (R1, R2) := ⟨_, _, rfl⟩
  rw [hR]
  dsimp only
  have HR := hid hR
  have HC := hid hcells
  have HN := hid (risName_any nm)
  clear hR hcells
  have hB0 := hid (below1 w (po nm ar (.slice ao xs.length cap)))
  by_cases h1 : nameB nm = true
  · rw [h1] at HN
    by_cases h2 : withinB ar 0 16 = true
    · have g1 : decide (ar < 0) = false := by simp [withinB] at h2; simp; omega
      have g2 : decide (16 < ar) = false := by simp [withinB] at h2; simp; omega
      by_cases h3 : xs.length ≤ 64
      · have HR2 := HR.out
        rw [procChk, if_pos h1, if_pos h2, if_pos h3] at HR2
        have H2 := hid HR2
        have HA := hid h2
        have h3' : (xs.length : Int) ≤ 64 := by omega
        have H1 := hid (rck_start w nm ar (.slice ao xs.length cap))
        have hl' : (xs.length : Int) ≤ 1000000000 := by omega
        have hcap' : (xs.length : Int) ≤ (cap : Int) := by omega
        clear HR2 HR h1 h2
        go_enter Try.func11, Try.ntmps11
        go_wp2_with (go_at_call 26; refine (HN.out _).mono ?_; rintro e w' ⟨rfl, e1⟩; rw [e1]; clear e1 w')
        go_loopw [5] (fun ix wr => ∃ (n : Nat), n ≤ xs.length ∧ ix = .int .i64 n ∧ Hid (Rck w wr nm ar (.slice ao xs.length cap)) ∧ Hid (codeChk ar xs.length n (xs.drop n) = (R1, R2))) (fun ix _ => xs.length - (intOf ix).toNat)
        case atStart => exact ⟨0, Nat.zero_le _, rfl, H1, hid H2.out⟩
        case round =>
          clear H1
          obtain ⟨n, hn, rfl, hP, hK⟩ := hrel
          by_cases hlt : n < xs.length
          · obtain ⟨x, hx⟩ : ∃ x, xs[n]? = some x := ⟨_, List.getElem?_eq_getElem hlt⟩
            obtain ⟨b, off, rfl, hat⟩ := HC.out (by intro e; rw [e] at hlt; simp at hlt)
            have hat := hat n x hx
            have hat2 := hat.same (hP.out.hb.block b hat.lt)
            have hdrop : xs.drop n = x :: xs.drop (n + 1) := by
              rw [List.drop_eq_getElem_cons hlt]
              congr 1
              have := List.getElem?_eq_getElem hlt
              rw [hx] at this
              exact (Option.some.inj this).symm
            rw [hdrop] at hK
            have hk2 := hK.out
            rw [codeChk] at hk2
            have hlt' : (n : Int) < (xs.length : Int) := by omega
            obtain ⟨p0, p1, p2, -⟩ := vfacts hP.out.r0
            have m1 := lt_of hP.out.r0
            have HI := hid (rinstr_any nm ar b off xs.length cap x n wr hat2 hlt' hl' hcap' HA.out)
            obtain ⟨E, hE⟩ : ∃ E, E = insErr x ar ((xs.length : Int) - 1 - n) := ⟨_, rfl⟩
            rw [← hE] at hk2 HI
            by_cases he : E = 0
            · rw [if_pos he] at hk2
              have HK2 := hid hk2
              subst he
              clear hk2 hK hdrop hx hat hat2 hE
              go_wp2_with (go_at_call 27
                           refine HI.out.mono ?_
                           rintro e w3 ⟨rfl, hb3⟩
                           have H3 := hid (hP.out.below hb3)
                           clear hb3)
              go_roundw
              case rel => exact ⟨n + 1, by omega, by go_num, H3, HK2⟩
              case measure => simp [intOf]; omega
            · rw [if_neg he] at hk2
              have he2 : (E == 0) = false := by simpa using he
              have he3 : (E != 0) = true := by simp [he]
              have HK2 := hid hk2
              clear hk2 hK hdrop hx hat hat2 hE he
              go_wp2_with (go_at_call 27
                           refine HI.out.mono ?_
                           rintro e w3 ⟨rfl, hb3⟩
                           have H3 := hid (hP.out.below hb3)
                           clear hb3)
              go_ret2
              have := HK2.out
              simp only [Prod.mk.injEq] at this
              obtain ⟨rfl, rfl⟩ := this
              exact ⟨rfl, H3.out.hb⟩
          · have hk2 := hK.out
            rw [List.drop_eq_nil_of_le (by omega), codeChk] at hk2
            have HK2 := hid hk2
            obtain ⟨p0, p1, p2, -⟩ := vfacts hP.out.r0
            clear hk2 hK
            go_wp2
            go_ret2
            have := HK2.out
            simp only [Prod.mk.injEq] at this
            obtain ⟨rfl, rfl⟩ := this
            exact ⟨rfl, hP.out.hb⟩
      · have HR2 := HR.out
        rw [procChk, if_pos h1, if_pos h2, if_neg h3] at HR2
        simp only [Prod.mk.injEq] at HR2
        obtain ⟨rfl, rfl⟩ := HR2
        have h3' : (64 : Int) < (xs.length : Int) := by omega
        clear HR h1 h2 h3
        go_enter Try.func11, Try.ntmps11
        go_wp2_with (go_at_call 26; refine (HN.out _).mono ?_; rintro e w' ⟨rfl, e1⟩; rw [e1]; clear e1 w')
        go_ret2
        exact ⟨rfl, hB0.out⟩
    · have HR2 := HR.out
      rw [procChk, if_pos h1, if_neg h2] at HR2
      simp only [Prod.mk.injEq] at HR2
      obtain ⟨rfl, rfl⟩ := HR2
      clear HR h1
      by_cases g : ar < 0
      · have g1 : decide (ar < 0) = true := by simpa using g
        clear h2 g
        go_enter Try.func11, Try.ntmps11
        go_wp2_with (go_at_call 26; refine (HN.out _).mono ?_; rintro e w' ⟨rfl, e1⟩; rw [e1]; clear e1 w')
        go_ret2
        exact ⟨rfl, hB0.out⟩
      · have g1 : decide (ar < 0) = false := by simpa using g
        have g2 : decide (16 < ar) = true := by simp [withinB] at h2; simp; omega
        clear h2 g
        go_enter Try.func11, Try.ntmps11
        go_wp2_with (go_at_call 26; refine (HN.out _).mono ?_; rintro e w' ⟨rfl, e1⟩; rw [e1]; clear e1 w')
        go_ret2
        exact ⟨rfl, hB0.out⟩
  · have HR2 := HR.out
    rw [procChk, if_neg h1] at HR2
    simp only [Prod.mk.injEq] at HR2
    obtain ⟨rfl, rfl⟩ := HR2
    have h1' : nameB nm = false := by simpa using h1
    rw [h1'] at HN
    clear HR h1 h1'
    go_enter Try.func11, Try.ntmps11
    go_wp2_with (go_at_call 26; refine (HN.out _).mono ?_; rintro e w' ⟨rfl, e1⟩; rw [e1]; clear e1 w')
    go_ret2
    exact ⟨rfl, hB0.out⟩

end Go.Proofs.Ytljfmbjibjoiiaa

namespace Go.Proofs.Ytljfmbjibjoiiaa
open Go.RowKit

/-- A slice of bytes, nil or with an address. -/
def Sn (w : World) (v : Value) (bs : List Int) : Prop := Sl w v bs ∧ (v = .slice none 0 0 ∨ ∃ a n c, v = .slice (some a) n c)

theorem sn_nil (w : World) : Sn w (.slice none 0 0) [] := ⟨⟨none, 0, rfl, Nat.le_refl _, fun h => absurd rfl h⟩, .inl rfl⟩

theorem sn_of_owns {w : World} {B : Nat} {v : Value} {bs : List Int} {n : Nat} (h : w.ownsRow B 5 1 v n (B8 bs)) : Sn w v bs := by
  refine ⟨sl_of_owns h, ?_⟩
  rcases h.2 with ⟨rfl, _⟩ | ⟨g, cap, cur, rfl, _⟩
  · exact .inl rfl
  · exact .inr ⟨_, _, _, rfl⟩

theorem Sn.kept {w w' : World} {v : Value} {bs : List Int} {S : Nat → Prop} (h : Sn w v bs) (hk : Kept S w w') (hn : ∀ k, v.ownBlock = some k → ¬ S k) : Sn w' v bs := ⟨h.1.kept hk hn, h.2⟩
theorem Sn.below {w w' : World} {v : Value} {bs : List Int} (h : Sn w v bs) (hk : Below w.heap.size w w') : Sn w' v bs := ⟨h.1.below hk, h.2⟩
theorem Sn.alloc {w : World} {v : Value} {bs : List Int} (h : Sn w v bs) (o : Obj) : Sn (w.alloc o) v bs := h.below ((Below.refl _ _).alloc (Nat.le_refl _) o)

set_option maxRecDepth 100000 in
theorem append_sn (w : World) (ty : TypeId) (B : Nat) (v : Value) (n : Nat) (xs : List Int) (hown : w.ownsRow B 5 1 v n (B8 xs)) (sv : Value) (ys : List Int) (hsn : Sn w sv ys) (hl : n + ys.length ≤ 100000000000) (hbase : B ≤ w.heap.size) :
    ∃ v' w', (Builtin.append_ #[38, 38] ty #[v, sv]).run Try.prog w = .ok v' w' ∧ w'.ownsRow B 5 1 v' (n + ys.length) (B8 (xs ++ ys)) ∧ w.grownBy w' v.ownBlock ∧ (v'.ownBlock = v.ownBlock ∨ v'.ownBlock = some w.heap.size) := by
  obtain ⟨i0, hi, hz0, hz1, hz2⟩ := info_parts Try.info5
  obtain ⟨⟨ao, cap, rfl, hc, hx⟩, hsh⟩ := hsn
  rcases hsh with hsh | ⟨a, m, c, hsh⟩
  · injection hsh with h1 h2 h3
    have hy : ys = [] := List.eq_nil_of_length_eq_zero h2
    subst hy
    subst h1 h3
    refine ⟨v, w, run_append_owned_none (P := Try.prog) (w := w) B 38 ty 5 i0 1 Try.underlying38 hi v n (B8 xs) hown, by simpa using hown, ⟨rfl, rfl, rfl, Nat.le_refl _, fun _ _ _ => rfl⟩, .inl rfl⟩
  · injection hsh with h1 h2 h3
    subst h1 h2 h3
    obtain ⟨v', w', hr, q1, q2, _, q4⟩ := run_append_own_at (P := Try.prog) w B 38 ty 5 i0 (.int .u8 0) 1 1 Try.underlying38 hi hz0 hz1 hz2 rfl (by omega) v n (B8 xs) hown a ys.length cap (B8 ys) (by simp) (by
      intro j u hu
      rw [List.getElem?_map, Option.map_eq_some_iff] at hu
      obtain ⟨y, hy, rfl⟩ := hu
      obtain ⟨b, off, e, hj⟩ := hx (by intro e; subst e; simp at hy)
      injection e with e
      subst e
      rw [add_lit]
      exact hj j y hy) (by intro u hu; obtain ⟨_, _, rfl⟩ := List.mem_map.1 hu; rfl) (by unfold maxLen; omega) (by omega) hbase
    exact ⟨v', w', hr, by simpa using q1, q2, q4⟩

theorem wpList_append_sn (w : World) {ops : Array Oper} {rest : List Oper} {o : Oper} {a : Act} {Q : Exit → Act → World → Prop} (hgd : o.guard = none) (s x : Operand)
    (ho : o.op = .call { callee := .builtin .append, args := #[s, x], argTypes := #[38, 38] }) (B : Nat) (v : Value) (n : Nat) (xs : List Int) (hs : a.eval s = v) (hown : w.ownsRow B 5 1 v n (B8 xs))
    (sv : Value) (ys : List Int) (hx : a.eval x = sv) (hsn : Sn w sv ys) (hl : n + ys.length ≤ 100000000000) (hbase : B ≤ w.heap.size)
    (h : ∀ ao c w', w'.ownsRow B 5 1 (.slice ao (n + ys.length) c) (n + ys.length) (B8 (xs ++ ys)) → w.grownBy w' v.ownBlock → wpList Try.prog ops Q rest (a.put o.dst (.slice ao (n + ys.length) c)) w') : wpList Try.prog ops Q (o :: rest) a w := by
  refine wpList_plain hgd fun K hK => ?_
  obtain ⟨v', w', hr, h2, h3, _⟩ := append_sn w o.type B v n xs hown sv ys hsn hl hbase
  obtain ⟨ao, c, rfl⟩ : ∃ ao c, v' = .slice ao (n + ys.length) c := by
    rcases h2.2 with ⟨e1, e2⟩ | ⟨g, cap, cur, e1, _⟩
    · exact ⟨none, 0, by rw [e1, e2]⟩
    · exact ⟨_, _, e1⟩
  unfold Oper.wp execOp
  simp only [ho, resolve, invoke, builtin, Sem.run_bind, Sem.run_pure, Result.andThen_ok, List.map_toArray, List.map_cons, List.map_nil, hs, hx, hr]
  exact hK _ _ (h ao c w' h2 h3)

set_option maxRecDepth 100000 in
set_option maxHeartbeats 1600000 in
theorem sevens_any (u : Int) (w : World) (hu0 : 0 ≤ u) (hu1 : u < 18446744073709551616) :
    Calls Try.prog 71 #[.int .u64 u] w fun x w' => ∃ v, x = .returned v ∧ Sn w' v (rowF 10 u) ∧ Below w.heap.size w w' := by
  obtain ⟨i0, hi, hz0, hz1, hz2⟩ := info_parts Try.info5
  go_enter Try.func71, Try.ntmps71
  go_wp2
  go_loopw [0, 3] (fun t v wr => ∃ (f : Nat) (u' : Int) (bs : List Int), t = .int .u64 u' ∧ 0 ≤ u' ∧ u' < 18446744073709551616 ∧ wr.ownsRow w.heap.size 5 1 v bs.length (B8 bs) ∧ Hid (bs ++ rowF f u' = rowF 10 u) ∧ bs.length + f = 10 ∧ Hid (u' < 128 ^ (f + 1)) ∧ Below w.heap.size w wr)
    (fun t _ _ => (intOf t).toNat)
  case atStart => exact ⟨10, u, [], rfl, hu0, hu1, World.ownsRow_nil _ _ _ _, hid rfl, rfl, hid (show u < 128 ^ (10 + 1) by omega), Below.refl _ _⟩
  case round =>
    obtain ⟨f, u', bs, rfl, h0, h1, hown, hb, hlen, hpow, hbel⟩ := hrel
    have hsz := hbel.size
    have hlo := hown.lt
    by_cases hc : 128 ≤ u'
    · have a2 : IntKind.u8.wrap (u' % 128) = u' % 128 := by rw [IntKind.wrap_u8]; omega
      have a3 : IntKind.u8.wrap (u' % 128 + 128) = u' % 128 + 128 := by rw [IntKind.wrap_u8]; omega
      go_wp2_with (at_builtin; refine wpList_append_lies _ rfl _ _ _ rfl w.heap.size 5 i0 (.int .u8 0) 1 1 Try.underlying38 hi hz0 hz1 hz2 rfl (by omega) _ bs.length (B8 bs) rfl (hown.alloc _) ⟨wr.heap.size, 0, none⟩ 1 1 [.int .u8 (u' % 128 + 128)] rfl rfl (World.news_of_block (cs := #[.int .u8 (u' % 128 + 128)]) (t := 5) (fr := (0, 0)) (heap_alloc_new wr _)) (by simp [Value.oneCell']) (by omega) (by unfold maxLen; omega) (by omega) (by simp; omega) (wr.heap.size + 1) (by simp) ?_)
      intro g2 cap w1 hown1 hgrow hat hlt
      have hb1 : Below w.heap.size w w1 := (hbel.alloc hsz _).grown hgrow (by simp; omega) (fun k hk => (hlo k hk).1)
      have HO := hid hown1
      clear hown1 hgrow hat hown hlo
      go_wp2
      go_roundw
      case rel =>
        cases f with
        | zero => exact absurd (show 127 < u' by omega) (pow_zero_no u' hpow)
        | succ f =>
          refine ⟨f, u' / 128, bs ++ [u' % 128 + 128], by first | rfl | go_num, by omega, by omega, ?_, hid ?_, by simp; omega, hid (pow_step f u' hpow), hb1⟩
          · have := HO.out
            simpa [B8] using this
          · rw [← hb.out, rowF_more f u' (by omega), List.append_assoc]
      case measure => simp [intOf]; omega
    · have a2 : IntKind.u8.wrap u' = u' := by rw [IntKind.wrap_u8]; omega
      go_wp2_with (at_builtin; refine wpList_append_lies _ rfl _ _ _ rfl w.heap.size 5 i0 (.int .u8 0) 1 1 Try.underlying38 hi hz0 hz1 hz2 rfl (by omega) _ bs.length (B8 bs) rfl (hown.alloc _) ⟨wr.heap.size, 0, none⟩ 1 1 [.int .u8 (u')] rfl rfl (World.news_of_block (cs := #[.int .u8 (u')]) (t := 5) (fr := (0, 0)) (heap_alloc_new wr _)) (by simp [Value.oneCell']) (by omega) (by unfold maxLen; omega) (by omega) (by simp; omega) (wr.heap.size + 1) (by simp) ?_)
      intro g2 cap w1 hown1 hgrow hat hlt
      have hb1 : Below w.heap.size w w1 := (hbel.alloc hsz _).grown hgrow (by simp; omega) (fun k hk => (hlo k hk).1)
      have HO := hid hown1
      clear hown1 hgrow hat hown hlo
      go_wp2
      go_ret
      refine ⟨_, rfl, ?_, hb1⟩
      have := HO.out
      rw [← hb.out, rowF_last f u' (by omega)]
      exact sn_of_owns (B := w.heap.size) (n := bs.length + 1) (by simpa [B8] using this)

end Go.Proofs.Ytljfmbjibjoiiaa

namespace Go.Proofs.Ytljfmbjibjoiiaa
open Go.RowKit

/-- A Writer of the document, answered. -/
def RWPost (w : World) (v0 : Value) (bs : List Int) (e : Int) (x : Ending) (w' : World) : Prop := ∃ v, x = .returned (.agg #[v, .int .i64 e]) ∧ Sn w' v bs ∧ Below w.heap.size w w' ∧ (v = v0 ∨ ∀ k, v.ownBlock = some k → w.heap.size ≤ k ∧ k < w'.heap.size)

theorem Sn.form {w : World} {v : Value} {bs : List Int} (h : Sn w v bs) : ∃ ao c, v = .slice ao bs.length c := by
  obtain ⟨⟨ao, cap, rfl, _⟩, _⟩ := h
  exact ⟨_, _, rfl⟩

set_option maxRecDepth 100000 in
set_option maxHeartbeats 1600000 in
theorem rlaid_stop (v vb : Value) (bs : List Int) (e : Int) (w : World) (h : Sn w v bs) (he : e ≠ 0) :
    Calls Try.prog 69 #[.agg #[v, .int .i64 e], vb] w fun x w' => RWPost w v bs e x w' := by
  have he2 : (e != 0) = true := by simpa using he
  obtain ⟨ao, c, rfl⟩ := h.form
  have H := hid h
  clear h he
  go_enter Try.func69, Try.ntmps69
  go_wp2
  refine bodyPost_ret (v := .agg #[.slice ao bs.length c, .int .i64 e]) (by simp [results, Try.results69, go_sem]) rfl ?_
  exact ⟨_, rfl, (H.out.alloc _).alloc _, ((Below.refl _ _).alloc (Nat.le_refl _) _).alloc (by simp) _, .inl rfl⟩

set_option maxRecDepth 100000 in
set_option maxHeartbeats 1600000 in
theorem rlaid_ok (v vb : Value) (bs xs : List Int) (w : World) (h : Sn w v bs) (hb : Sn w vb xs) (hl : bs.length + xs.length ≤ 10000000000) :
    Calls Try.prog 69 #[.agg #[v, .int .i64 0], vb] w fun x w' => RWPost w v (bs ++ xs) 0 x w' := by
  obtain ⟨ao, c, rfl⟩ := h.form
  have H := hid h
  have HB := hid hb
  clear h hb
  go_enter Try.func69, Try.ntmps69
  go_wp2_with (at_builtin; refine wpList_append_sn _ rfl (.tmp 10) (.tmp 12) rfl (w.heap.size + 2) (.slice none 0 0) 0 [] rfl (World.ownsRow_nil _ _ _ _) _ bs rfl ((H.out.alloc _).alloc _) (by omega) (by simp) ?_)
  intro ao1 c1 w1 ho1 hg1
  have hz1 := hg1.size
  have q0 : w1.heap[w.heap.size]? = some (.cells #[.slice ao bs.length c, .int .i64 0] 74 (0, 0)) := by
    rw [hg1.block _ (by simp; omega) (by simp [Value.ownBlock]), Below.heap_alloc _ _ _ (by simp)]
    exact heap_alloc_new w _
  have q1 : w1.heap[w.heap.size + 1]? = some (.cells #[.slice none 0 0, .int .i64 0] 74 (0, 0)) := by
    rw [hg1.block _ (by simp) (by simp [Value.ownBlock])]
    have := heap_alloc_new (w.alloc (.cells #[.slice ao bs.length c, .int .i64 0] 74)) (.cells #[.slice none 0 0, .int .i64 0] 74)
    simpa using this
  have hbel : Below w.heap.size w w1 := (((Below.refl _ _).alloc (Nat.le_refl _) _).alloc (by simp) _).grown hg1 (by simp; omega) (by intro k hk; simp [Value.ownBlock] at hk)
  have Q0 := hid q0
  have Q1 := hid q1
  have HB1 := hid (HB.out.below hbel)
  simp at hz1
  clear q0 q1 hg1 HB H
  go_wp2_with (at_builtin; refine wpList_append_sn _ rfl (.tmp 14) (.tmp 15) rfl (w.heap.size + 2) _ bs.length bs rfl ho1 _ xs rfl HB1.out (by omega) (by omega) ?_)
  intro ao2 c2 w2 ho2 hg2
  have hlo := ho1.lt
  have r0 : w2.heap[w.heap.size]? = some (.cells #[.slice ao bs.length c, .int .i64 0] 74 (0, 0)) := by
    rw [hg2.block _ (by omega) (fun h => by have := hlo _ h.symm; omega)]
    exact Q0.out
  have r1 : w2.heap[w.heap.size + 1]? = some (.cells #[.slice none 0 0, .int .i64 0] 74 (0, 0)) := by
    rw [hg2.block _ (by omega) (fun h => by have := hlo _ h.symm; omega)]
    exact Q1.out
  have hb2 : Below w.heap.size w w2 := hbel.grown hg2 (by omega) (fun k hk => by have := hlo k hk; omega)
  obtain ⟨d0, d1⟩ := cell_of_pair r0
  obtain ⟨d2, d3⟩ := cell_of_pair r1
  have z0 := free_of_block (o := 0) r0
  have z1 := free_of_block (o := 0) r1
  have z2 := free_of_block (o := 1) r1
  have HO := hid ho2
  have hne : (w.heap.size : Nat) ≠ w.heap.size + 1 := by omega
  clear hg2 ho1 ho2 hlo Q0 Q1 HB1 hbel r0 r1
  go_wp2
  have hk : Kept (fun k => k = w.heap.size ∨ k = w.heap.size + 1) w2 (((w2.setCell ⟨w.heap.size, 0, none⟩ (.slice ao2 (bs.length + xs.length) c2)).setCell ⟨w.heap.size + 1, 0, none⟩ (.slice ao2 (bs.length + xs.length) c2)).setCell ⟨w.heap.size + 1, 1, none⟩ (.int .i64 0)) :=
    (((Kept.refl (fun k => k = w.heap.size ∨ k = w.heap.size + 1) w2).setCell (fun _ => .inl rfl) _).setCell (fun _ => .inr rfl) _).setCell (fun _ => .inr rfl) _
  have ho3 : w2.ownsRow (w.heap.size + 2) 5 1 (.slice ao2 (bs.length + xs.length) c2) (bs.length + xs.length) (B8 (bs ++ xs)) := by
    have := HO.out
    simpa [B8] using this
  refine bodyPost_ret (v := .agg #[.slice ao2 (bs.length + xs.length) c2, .int .i64 0]) (by simp [results, Try.results69, go_sem, d2, d3]) rfl ?_
  refine ⟨_, rfl, ?_, ?_, .inr (fun k hk2 => by have h1 := ho3.lt k hk2; have h2 := hk.size; omega)⟩
  · exact (sn_of_owns ho3).kept hk (fun k h1 h2 => by have := ho3.lt k h1; omega)
  · exact ((hb2.setCell (Nat.le_refl _) _).setCell (by simp) _).setCell (by simp) _

end Go.Proofs.Ytljfmbjibjoiiaa

namespace Go.Proofs.Ytljfmbjibjoiiaa
open Go.RowKit

/-- Bytes don't lie in a Writer's cells. -/
theorem sl_setPair {w : World} {v : Value} {bs : List Int} {q : Nat} {a : Option Addr} {n c : Nat} {e : Int} {t : TypeId} (h : Sl w v bs) (hq : w.heap[q]? = some (.cells #[.slice a n c, .int .i64 e] t (0, 0))) (i : Nat) (x : Value) : Sl (w.setCell ⟨q, i, none⟩ x) v bs := by
  obtain ⟨ao, cap, rfl, hc, hx⟩ := h
  refine ⟨ao, cap, rfl, hc, fun hne => ?_⟩
  obtain ⟨b, off, rfl, hj⟩ := hx hne
  refine ⟨b, off, rfl, ?_⟩
  have hbq : b ≠ q := by
    intro e
    subst e
    have h0 := hj 0 _ (List.getElem?_eq_getElem (List.length_pos_iff.2 hne))
    rw [cell_of_row w b _ _ t (0, 0) hq] at h0
    match off + 0, h0 with
    | 0, h0 => simp at h0
    | 1, h0 => simp at h0
    | k + 2, h0 => simp at h0
  intro j y hy
  rw [World.cell?_of_block (Below.heap_setCell _ _ _ _ hbq)]
  exact hj j y hy

theorem rw_finish {w w1 : World} {q : Nat} {a : Option Addr} {n c : Nat} {e0 e : Int} {t : TypeId} {ao : Option Addr} {len cap : Nat} {bs : List Int} (hq : w1.heap[q]? = some (.cells #[.slice a n c, .int .i64 e0] t (0, 0))) (hv : Sn w1 (.slice ao len cap) bs)
    (hb : Below w.heap.size w w1) (hge : w.heap.size ≤ q) {v0 : Value} (hf : .slice ao len cap = v0 ∨ ∀ k, (Value.slice ao len cap).ownBlock = some k → w.heap.size ≤ k ∧ k < w1.heap.size) : RWPost w v0 bs e (.returned (.agg #[.slice ao len cap, .int .i64 e])) ((w1.setCell ⟨q, 0, none⟩ (.slice ao len cap)).setCell ⟨q, 1, none⟩ (.int .i64 e)) := by
  refine ⟨_, rfl, ⟨sl_setPair (sl_setPair hv.1 hq 0 _) (heap_setCell_same hq) 1 _, hv.2⟩, (hb.setCell hge _).setCell hge _, by simpa [World.setCell] using hf⟩

theorem fresh_mono {v v0 : Value} {A B C D : Nat} (h : v = v0 ∨ ∀ k, v.ownBlock = some k → A ≤ k ∧ k < C) (hle : B ≤ A) (hcd : C ≤ D) : v = v0 ∨ ∀ k, v.ownBlock = some k → B ≤ k ∧ k < D := by
  rcases h with h | h
  · exact .inl h
  · exact .inr (fun k hk => ⟨Nat.le_trans hle (h k hk).1, Nat.lt_of_lt_of_le (h k hk).2 hcd⟩)

theorem new2 (w : World) (X Y : Obj) : ((w.alloc X).alloc Y).heap[w.heap.size + 1]? = some Y ∧ ((w.alloc X).alloc Y).heap[w.heap.size]? = some X := by
  constructor
  · have := heap_alloc_new (w.alloc X) Y
    simpa using this
  · rw [Below.heap_alloc _ _ _ (by simp)]
    exact heap_alloc_new w X

/-- What 'stopped' and its kin leave. -/
def stopZ (s : List Int × Int) (e : Int) : List Int × Int := if s.2 = 0 then (s.1, e) else s
def laidZ (s : List Int × Int) (xs : List Int) : List Int × Int := if s.2 = 0 then (s.1 ++ xs, 0) else s

theorem rlaid_any (v vb : Value) (s : List Int × Int) (xs : List Int) (w : World) (h : Sn w v s.1) (hb : Sn w vb xs) (hl : s.1.length + xs.length ≤ 10000000000) :
    Calls Try.prog 69 #[.agg #[v, .int .i64 s.2], vb] w fun x w' => RWPost w v (laidZ s xs).1 (laidZ s xs).2 x w' := by
  obtain ⟨bs, e⟩ := s
  unfold laidZ
  by_cases he : e = 0
  · subst he
    rw [if_pos rfl]
    exact rlaid_ok v vb bs xs w h hb hl
  · rw [if_neg he]
    exact rlaid_stop v vb bs e w h he

set_option maxRecDepth 100000 in
set_option maxHeartbeats 1600000 in
theorem rstop_any (v : Value) (s : List Int × Int) (e2 : Int) (w : World) (h : Sn w v s.1) :
    Calls Try.prog 70 #[.agg #[v, .int .i64 s.2], .int .i64 e2] w fun x w' => RWPost w v (stopZ s e2).1 (stopZ s e2).2 x w' := by
  obtain ⟨bs, e⟩ := s
  obtain ⟨ao, c, rfl⟩ := h.form
  have H := hid h
  clear h
  unfold stopZ
  by_cases he : e = 0
  · subst he
    rw [if_pos rfl]
    go_enter Try.func70, Try.ntmps70
    go_wp2
    refine bodyPost_ret (v := .agg #[.slice ao bs.length c, .int .i64 e2]) (by simp [results, Try.results70, go_sem]) rfl ?_
    exact ⟨_, rfl, (H.out.alloc _).alloc _, ((Below.refl _ _).alloc (Nat.le_refl _) _).alloc (by simp) _, .inl rfl⟩
  · rw [if_neg he]
    have he2 : (e == 0) = false := by simpa using he
    go_enter Try.func70, Try.ntmps70
    go_wp2
    refine bodyPost_ret (v := .agg #[.slice ao bs.length c, .int .i64 e]) (by simp [results, Try.results70, go_sem]) rfl ?_
    exact ⟨_, rfl, (H.out.alloc _).alloc _, ((Below.refl _ _).alloc (Nat.le_refl _) _).alloc (by simp) _, .inl rfl⟩

set_option maxRecDepth 100000 in
set_option maxHeartbeats 1600000 in
theorem rbyteW_any (v : Value) (s : List Int × Int) (y : Int) (w : World) (h : Sn w v s.1) (hl : s.1.length ≤ 1000000000) :
    Calls Try.prog 34 #[.agg #[v, .int .i64 s.2], .int .u8 y] w fun x w' => RWPost w v (laidZ s [y]).1 (laidZ s [y]).2 x w' := by
  obtain ⟨ao, c, rfl⟩ := h.form
  obtain ⟨bs, e⟩ := s
  have H := hid h
  clear h
  dsimp only at hl
  obtain ⟨R, hR⟩ : ∃ R, R = laidZ (bs, e) [y] := ⟨_, rfl⟩
  rw [← hR]
  have HR := hid hR
  clear hR
  go_enter Try.func34, Try.ntmps34
  go_wp2_with fail
  have hnb : ∀ X Y : Obj, Sn (((w.alloc X).alloc Y).alloc (.cells #[.int .u8 y] 5)) (.slice (some ⟨w.heap.size + 1 + 1, 0, none⟩) 1 1) [y] := fun X Y => by
    have h1 : Own (((w.alloc X).alloc Y).alloc (.cells #[.int .u8 y] 5)) (w.heap.size + 1 + 1) [y] := by
      have := heap_alloc_new ((w.alloc X).alloc Y) (.cells #[.int .u8 y] 5)
      simpa [Own, B8] using this
    exact sn_of_owns (h1.owns (B := 0) (Nat.zero_le _) (by unfold maxLen; simp))
  refine (rlaid_any _ _ (bs, e) [y] _ (((H.out.alloc _).alloc _).alloc _) (hnb _ _) (by simp; omega)).mono ?_
  rw [← HR.out]
  rintro x w1 ⟨v1, rfl, hs1, hb1, hf1⟩
  obtain ⟨ao1, c1, rfl⟩ := hs1.form
  have hq : w1.heap[w.heap.size + 1]? = some (.cells #[.slice none 0 0, .int .i64 0] 74 (0, 0)) := (hb1.block _ (by simp)).trans ((Below.heap_alloc _ _ _ (by simp)).trans (new2 w _ _).1)
  have HF := hid (rw_finish (e := R.2) hq hs1 (((((Below.refl _ _).alloc (Nat.le_refl _) _).alloc (by simp) _).alloc (by rw [World.size_alloc, World.size_alloc]; omega) _).trans (hb1.mono (by simp; omega))) (by omega) (fresh_mono hf1 (by first | omega | (simp; omega) | (simp at hz1; omega)) (Nat.le_refl _)))
  obtain ⟨d2, d3⟩ := cell_of_pair hq
  have z1 := free_of_block (o := 0) hq
  have z2 := free_of_block (o := 1) hq
  clear hq hs1 hb1 hf1 hnb H HR
  go_wp2
  refine bodyPost_ret (v := .agg #[.slice ao1 R.1.length c1, .int .i64 R.2]) (by simp [results, Try.results34, go_sem, d2, d3]) rfl ?_
  exact HF.out

/-- The bytes of 'Fixed', one by one. -/
def fixF : Nat → Int → List Int
  | 0, _ => []
  | n + 1, v => v % 256 :: fixF n (v / 256)

theorem fixF_len (n : Nat) (v : Int) : (fixF n v).length = n := by
  induction n generalizing v with
  | zero => rfl
  | succ n ih => simp [fixF, ih]

def rfixZ (s : List Int × Int) (v n : Int) : List Int × Int := if n < 0 ∨ 8 < n then stopZ s 1 else laidZ s (fixF n.toNat v)
def rnumZ (s : List Int × Int) (v : Int) : List Int × Int := if v < 0 then stopZ s 15 else laidZ s (rowF 10 v)
def rintZ (s : List Int × Int) (v : Int) : List Int × Int := laidZ s (rowF 10 (foldZ v))
def rtextZ (s : List Int × Int) (t : List Int) : List Int × Int := laidZ (rnumZ s t.length) t

end Go.Proofs.Ytljfmbjibjoiiaa
