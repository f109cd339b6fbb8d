import Derived.Test.YtdnlfacfleemeaaGreatK27
import Derived.Test.YtdnlfacfleemeaaGreatK28
import Derived.Test.YtdnlfacfleemeaaGreatK18
namespace Go.Proofs.YtdnlfacfleemeaaGreat
open Go.RowKit

set_option maxRecDepth 100000 in
set_option maxHeartbeats 8000000 in
theorem risName_any (s : ByteArray) (w : World) : Calls Tryz.prog 37 #[.string s] w fun x w' => x = .returned (.bool (nameB s)) ∧ w' = w := by
  obtain ⟨r, hr⟩ : ∃ r, r = nameB s := ⟨_, rfl⟩
  rw [← hr]
  have HR := hid hr
  clear hr
  by_cases h1 : 1 ≤ s.size
  · by_cases h1' : s.size ≤ 32
    · have hs2 : 0 < s.size := by omega
      obtain ⟨a0, ha0⟩ : ∃ a0 : UInt8, a0 = s[0]'hs2 := ⟨_, rfl⟩
      have hh := strBs_head s hs2
      rw [← ha0] at hh
      have g1 : decide ((s.size : Int) < 1) = false := by simp; omega
      have g2 : decide ((32 : Int) < (s.size : Int)) = false := by simp; omega
      have hs1 : 1 ≤ s.size ∧ s.size ≤ 32 := ⟨h1, h1'⟩
      have hsz : s.size ≤ 32 := h1'
      by_cases h2 : letB (a0.toNat : Int) = true
      · have HH := hid hh
        have HS := hid hs1
        have HL := hid h2
        clear h1 hh hs1 h2 h1'
        go_enter Tryz.func37, Tryz.ntmps37
        go_wp2_with (go_at_call 66; rw [← ha0]; refine (rletter_any (a0.toNat : Int) _).mono ?_; rintro e w' ⟨rfl, e1⟩; rw [e1, HL.out]; clear e1 w')
        go_loopw [3] (fun i wr => ∃ (k : Nat), k ≤ s.size ∧ i = .int .i64 k ∧ wr = w ∧ Hid (∀ x ∈ (strBs s).take k, nbB x = true)) (fun i _ => s.size - (intOf i).toNat)
        case atStart => exact ⟨0, Nat.zero_le _, rfl, rfl, hid (by simp)⟩
        case round =>
          obtain ⟨k, hk, rfl, rfl, hpre⟩ := hrel
          by_cases hlt : k < s.size
          · obtain ⟨a1, ha1⟩ : ∃ a1 : UInt8, a1 = s[k]'hlt := ⟨_, rfl⟩
            have HA := hid (strBs_at s k hlt)
            rw [← ha1] at HA
            obtain ⟨l, hl⟩ : ∃ l, l = letB (a1.toNat : Int) := ⟨_, rfl⟩
            have HQ := hid (rletter_any (a1.toNat : Int))
            rw [← hl] at HQ
            cases l
            · skip
              by_cases u1 : (a1.toNat : Int) < 48
              · have u1a : decide ((a1.toNat : Int) < 48) = true := by simpa using u1
                have u1b : decide ((48 : Int) ≤ (a1.toNat : Int)) = false := by simp; omega
                have s95 : ¬ (a1.toNat : Int) = 95 := by omega
                have s95a : ((a1.toNat : Int) == 95) = false := by simpa using s95
                have s95b : ((a1.toNat : Int) != 95) = true := by simp [s95]
                by_cases s45 : (a1.toNat : Int) = 45
                · have s45a : ((a1.toNat : Int) == 45) = true := by simpa using s45
                  have s45b : ((a1.toNat : Int) != 45) = false := by simp [s45]
                  have h3 : nbB (a1.toNat : Int) = true := by simp [nbB, ← hl, u1b, s95a, s45a]
                  have H3 := hid h3
                  clear h3 hl
                  subst ha1
                  clear u1 s95 s45
                  go_wp2_with (go_at_call 66; refine (HQ.out _).mono ?_; rintro e w' ⟨rfl, e1⟩; rw [e1]; clear e1 w')
                  go_roundw
                  case rel =>
                    refine ⟨k + 1, by omega, by go_num, (by first | rfl | trivial), hid ?_⟩
                    intro x hx
                    rw [List.take_add_one, HA.out] at hx
                    rcases List.mem_append.1 hx with h | h
                    · exact hpre.out x h
                    · simp at h; rw [h]; exact H3.out
                  case measure => simp [intOf]; omega
                have s45a : ((a1.toNat : Int) == 45) = false := by simpa using s45
                have s45b : ((a1.toNat : Int) != 45) = true := by simp [s45]
                by_cases s46 : (a1.toNat : Int) = 46
                · have s46a : ((a1.toNat : Int) == 46) = true := by simpa using s46
                  have s46b : ((a1.toNat : Int) != 46) = false := by simp [s46]
                  have h3 : nbB (a1.toNat : Int) = true := by simp [nbB, ← hl, u1b, s95a, s45a, s46a]
                  have H3 := hid h3
                  clear h3 hl
                  subst ha1
                  clear u1 s95 s45 s46
                  go_wp2_with (go_at_call 66; refine (HQ.out _).mono ?_; rintro e w' ⟨rfl, e1⟩; rw [e1]; clear e1 w')
                  go_roundw
                  case rel =>
                    refine ⟨k + 1, by omega, by go_num, (by first | rfl | trivial), hid ?_⟩
                    intro x hx
                    rw [List.take_add_one, HA.out] at hx
                    rcases List.mem_append.1 hx with h | h
                    · exact hpre.out x h
                    · simp at h; rw [h]; exact H3.out
                  case measure => simp [intOf]; omega
                have s46a : ((a1.toNat : Int) == 46) = false := by simpa using s46
                have s46b : ((a1.toNat : Int) != 46) = true := by simp [s46]
                have h3 : nbB (a1.toNat : Int) = false := by simp [nbB, ← hl, u1b, s95a, s45a, s46a]
                have H3 := hid h3
                clear h3 hl
                subst ha1
                clear u1 s95 s45 s46
                go_wp2_with (go_at_call 66; refine (HQ.out _).mono ?_; rintro e w' ⟨rfl, e1⟩; rw [e1]; clear e1 w')
                go_ret
                refine ⟨?_, rfl⟩
                rw [HR.out, show nameB s = false by
                  simp only [nameB, decide_eq_false_iff_not]
                  rintro ⟨_, _, _, hall⟩
                  have := hall _ (List.mem_of_getElem? HA.out)
                  rw [H3.out] at this
                  cases this]
                rfl
              · have u1a : decide ((a1.toNat : Int) < 48) = false := by simp; omega
                have u1b : decide ((48 : Int) ≤ (a1.toNat : Int)) = true := by simp; omega
                by_cases u2 : (57 : Int) < (a1.toNat : Int)
                · have u2a : decide ((57 : Int) < (a1.toNat : Int)) = true := by simpa using u2
                  have u2b : decide ((a1.toNat : Int) ≤ 57) = false := by simp; omega
                  by_cases s95 : (a1.toNat : Int) = 95
                  · have s95a : ((a1.toNat : Int) == 95) = true := by simpa using s95
                    have s95b : ((a1.toNat : Int) != 95) = false := by simp [s95]
                    have h3 : nbB (a1.toNat : Int) = true := by simp [nbB, ← hl, u1b, u2b, s95a]
                    have H3 := hid h3
                    clear h3 hl
                    subst ha1
                    clear u1 u2 s95
                    go_wp2_with (go_at_call 66; refine (HQ.out _).mono ?_; rintro e w' ⟨rfl, e1⟩; rw [e1]; clear e1 w')
                    go_roundw
                    case rel =>
                      refine ⟨k + 1, by omega, by go_num, (by first | rfl | trivial), hid ?_⟩
                      intro x hx
                      rw [List.take_add_one, HA.out] at hx
                      rcases List.mem_append.1 hx with h | h
                      · exact hpre.out x h
                      · simp at h; rw [h]; exact H3.out
                    case measure => simp [intOf]; omega
                  have s95a : ((a1.toNat : Int) == 95) = false := by simpa using s95
                  have s95b : ((a1.toNat : Int) != 95) = true := by simp [s95]
                  have s45 : ¬ (a1.toNat : Int) = 45 := by omega
                  have s45a : ((a1.toNat : Int) == 45) = false := by simpa using s45
                  have s45b : ((a1.toNat : Int) != 45) = true := by simp [s45]
                  have s46 : ¬ (a1.toNat : Int) = 46 := by omega
                  have s46a : ((a1.toNat : Int) == 46) = false := by simpa using s46
                  have s46b : ((a1.toNat : Int) != 46) = true := by simp [s46]
                  have h3 : nbB (a1.toNat : Int) = false := by simp [nbB, ← hl, u1b, u2b, s95a, s45a, s46a]
                  have H3 := hid h3
                  clear h3 hl
                  subst ha1
                  clear u1 u2 s95 s45 s46
                  go_wp2_with (go_at_call 66; refine (HQ.out _).mono ?_; rintro e w' ⟨rfl, e1⟩; rw [e1]; clear e1 w')
                  go_ret
                  refine ⟨?_, rfl⟩
                  rw [HR.out, show nameB s = false by
                    simp only [nameB, decide_eq_false_iff_not]
                    rintro ⟨_, _, _, hall⟩
                    have := hall _ (List.mem_of_getElem? HA.out)
                    rw [H3.out] at this
                    cases this]
                  rfl
                · have u2a : decide ((57 : Int) < (a1.toNat : Int)) = false := by simp; omega
                  have u2b : decide ((a1.toNat : Int) ≤ 57) = true := by simp; omega
                  have h3 : nbB (a1.toNat : Int) = true := by simp [nbB, ← hl, u1b, u2b]
                  have H3 := hid h3
                  clear h3 hl
                  subst ha1
                  clear u1 u2
                  go_wp2_with (go_at_call 66; refine (HQ.out _).mono ?_; rintro e w' ⟨rfl, e1⟩; rw [e1]; clear e1 w')
                  go_roundw
                  case rel =>
                    refine ⟨k + 1, by omega, by go_num, (by first | rfl | trivial), hid ?_⟩
                    intro x hx
                    rw [List.take_add_one, HA.out] at hx
                    rcases List.mem_append.1 hx with h | h
                    · exact hpre.out x h
                    · simp at h; rw [h]; exact H3.out
                  case measure => simp [intOf]; omega
            · skip
              have h3 : nbB (a1.toNat : Int) = true := by simp [nbB, ← hl, Bool.or_true]
              have H3 := hid h3
              clear h3 hl
              subst ha1
              go_wp2_with (go_at_call 66; refine (HQ.out _).mono ?_; rintro e w' ⟨rfl, e1⟩; rw [e1]; clear e1 w')
              go_roundw
              case rel =>
                refine ⟨k + 1, by omega, by go_num, (by first | rfl | trivial), hid ?_⟩
                intro x hx
                rw [List.take_add_one, HA.out] at hx
                rcases List.mem_append.1 hx with h | h
                · exact hpre.out x h
                · simp at h; rw [h]; exact H3.out
              case measure => simp [intOf]; omega
          · have hall := hpre.out
            rw [List.take_of_length_le (by rw [strBs_len]; omega)] at hall
            have Hall := hid hall
            clear hall
            go_wp2
            go_ret
            refine ⟨?_, rfl⟩
            rw [HR.out, show nameB s = true by
              simp only [nameB, decide_eq_true_eq]
              exact ⟨HS.out.1, HS.out.2, by rw [HH.out]; exact HL.out, Hall.out⟩]
            rfl
      · have h2 : letB (a0.toNat : Int) = false := by simpa using h2
        have HH := hid hh
        have HL := hid h2
        clear h1 hh hs1 h2 h1'
        go_enter Tryz.func37, Tryz.ntmps37
        go_wp2_with (go_at_call 66; rw [← ha0]; refine (rletter_any (a0.toNat : Int) _).mono ?_; rintro e w' ⟨rfl, e1⟩; rw [e1, HL.out]; clear e1 w')
        go_ret
        refine ⟨?_, rfl⟩
        rw [HR.out, show nameB s = false by
          simp only [nameB, decide_eq_false_iff_not]
          rintro ⟨_, _, h, _⟩
          rw [HH.out, HL.out] at h
          cases h]
        rfl
    · have g1 : decide ((s.size : Int) < 1) = false := by simp; omega
      have g2 : decide ((32 : Int) < (s.size : Int)) = true := by simp; omega
      have hn : nameB s = false := by
        simp only [nameB, decide_eq_false_iff_not]
        rintro ⟨_, h, _⟩
        omega
      have HN := hid hn
      clear hn h1 h1'
      go_enter Tryz.func37, Tryz.ntmps37
      go_wp2
      go_ret
      exact ⟨by rw [HR.out, HN.out]; rfl, rfl⟩
  · have g1 : decide ((s.size : Int) < 1) = true := by simp; omega
    have hn : nameB s = false := by
      simp only [nameB, decide_eq_false_iff_not]
      rintro ⟨h, _⟩
      omega
    have HN := hid hn
    clear hn h1
    go_enter Tryz.func37, Tryz.ntmps37
    go_wp2
    go_ret
    exact ⟨by rw [HR.out, HN.out]; rfl, rfl⟩

end Go.Proofs.YtdnlfacfleemeaaGreat

namespace Go.Proofs.YtdnlfacfleemeaaGreat
open Go.RowKit

theorem rinstr_any (nm : ByteArray) (ar : Int) (b off len cap : Nat) (x : Ins) (n : Nat) (w : World)
    (h : InsAt w b (off + n * 8) x) (hlt : (n : Int) < (len : Int)) (hl : (len : Int) ≤ 1000000000) (hcap : (len : Int) ≤ (cap : Int)) (har : withinB ar 0 16 = true) :
    Calls Tryz.prog 65 #[.agg #[.string nm, .int .i64 ar, .slice (some ⟨b, off, none⟩) len cap], .int .i64 n] w
      fun e w' => e = .returned (.int .i64 (insErr x ar ((len : Int) - 1 - n))) ∧ Below w.heap.size w w' := by
  rw [← rinsErr_eq x ar _ har]
  exact rinstr_raw nm ar b off len cap x n w (fdS x.op) _ _ _ _ _ _ h hlt hl hcap (hid (rfields_any x.op)) (hid (rregister_any _ (fdS_len _) 65 x.a)) (hid (rregister_any _ (fdS_len _) 66 x.b)) (hid (rregister_any _ (fdS_len _) 67 x.c))
    (hid (rhas_any _ (fdS_len _) 97)) (hid (rhas_any _ (fdS_len _) 86)) (hid (rnumber_any nm ar (some ⟨b, off, none⟩) len cap x.op x.a x.b x.c x.n x.k x.i x.t))

/-- While it goes round. -/
structure Rck (w W : World) (nm : ByteArray) (ar : Int) (S : Value) : Prop where
  r0 : W.heap[w.heap.size]? = some (po nm ar S)
  hb : Below w.heap.size w W

theorem Rck.below {w W W' : World} {nm : ByteArray} {ar : Int} {S : Value} (h : Rck w W nm ar S) (hb : Below W.heap.size W W') : Rck w W' nm ar S :=
  ⟨blk_of hb h.r0 (lt_of h.r0), below_on h.hb hb⟩

theorem rck_start (w : World) (nm : ByteArray) (ar : Int) (S : Value) : Rck w (w.alloc (po nm ar S)) nm ar S := ⟨heap_alloc_new w _, below1 w _⟩

set_option maxRecDepth 100000 in
set_option maxHeartbeats 4000000 in
theorem rpcheck_any (nm : ByteArray) (ar : Int) (S : Value) (xs : List Ins) (w : World) (h : CodeAt w S xs) (hl : xs.length ≤ 1000000000) :
    Calls Tryz.prog 36 #[.agg #[.string nm, .int .i64 ar, S]] w fun e w' => e = .returned (.tuple #[.int .i64 (procChk nm ar xs).1, .int .i64 (procChk nm ar xs).2]) ∧ Below w.heap.size w w' := by
  obtain ⟨ao, cap, rfl, hcap, hcells⟩ := h
  obtain ⟨R1, R2, hR⟩ : ∃ R1 R2, procChk nm ar xs = (R1, R2) := ⟨_, _, rfl⟩
  rw [hR]
  dsimp only
  have HR := hid hR
  have HC := hid hcells
  have HN := hid (risName_any nm)
  clear hR hcells
  have hB0 := hid (below1 w (po nm ar (.slice ao xs.length cap)))
  by_cases h1 : nameB nm = true
  · rw [h1] at HN
    by_cases h2 : withinB ar 0 16 = true
    · have g1 : decide (ar < 0) = false := by simp [withinB] at h2; simp; omega
      have g2 : decide (16 < ar) = false := by simp [withinB] at h2; simp; omega
      by_cases h3 : xs.length ≤ 64
      · have HR2 := HR.out
        rw [procChk, if_pos h1, if_pos h2, if_pos h3] at HR2
        have H2 := hid HR2
        have HA := hid h2
        have h3' : (xs.length : Int) ≤ 64 := by omega
        have H1 := hid (rck_start w nm ar (.slice ao xs.length cap))
        have hl' : (xs.length : Int) ≤ 1000000000 := by omega
        have hcap' : (xs.length : Int) ≤ (cap : Int) := by omega
        clear HR2 HR h1 h2
        go_enter Tryz.func36, Tryz.ntmps36
        go_wp2_with (go_at_call 37; refine (HN.out _).mono ?_; rintro e w' ⟨rfl, e1⟩; rw [e1]; clear e1 w')
        go_loopw [5] (fun ix wr => ∃ (n : Nat), n ≤ xs.length ∧ ix = .int .i64 n ∧ Hid (Rck w wr nm ar (.slice ao xs.length cap)) ∧ Hid (codeChk ar xs.length n (xs.drop n) = (R1, R2))) (fun ix _ => xs.length - (intOf ix).toNat)
        case atStart => exact ⟨0, Nat.zero_le _, rfl, H1, hid H2.out⟩
        case round =>
          clear H1
          obtain ⟨n, hn, rfl, hP, hK⟩ := hrel
          by_cases hlt : n < xs.length
          · obtain ⟨x, hx⟩ : ∃ x, xs[n]? = some x := ⟨_, List.getElem?_eq_getElem hlt⟩
            obtain ⟨b, off, rfl, hat⟩ := HC.out (by intro e; rw [e] at hlt; simp at hlt)
            have hat := hat n x hx
            have hat2 := hat.same (hP.out.hb.block b hat.lt)
            have hdrop : xs.drop n = x :: xs.drop (n + 1) := by
              rw [List.drop_eq_getElem_cons hlt]
              congr 1
              have := List.getElem?_eq_getElem hlt
              rw [hx] at this
              exact (Option.some.inj this).symm
            rw [hdrop] at hK
            have hk2 := hK.out
            rw [codeChk] at hk2
            have hlt' : (n : Int) < (xs.length : Int) := by omega
            obtain ⟨p0, p1, p2, -⟩ := vfacts hP.out.r0
            have m1 := lt_of hP.out.r0
            have HI := hid (rinstr_any nm ar b off xs.length cap x n wr hat2 hlt' hl' hcap' HA.out)
            obtain ⟨E, hE⟩ : ∃ E, E = insErr x ar ((xs.length : Int) - 1 - n) := ⟨_, rfl⟩
            rw [← hE] at hk2 HI
            by_cases he : E = 0
            · rw [if_pos he] at hk2
              have HK2 := hid hk2
              subst he
              clear hk2 hK hdrop hx hat hat2 hE
              go_wp2_with (go_at_call 65
                           refine HI.out.mono ?_
                           rintro e w3 ⟨rfl, hb3⟩
                           have H3 := hid (hP.out.below hb3)
                           clear hb3)
              go_roundw
              case rel => exact ⟨n + 1, by omega, by go_num, H3, HK2⟩
              case measure => simp [intOf]; omega
            · rw [if_neg he] at hk2
              have he2 : (E == 0) = false := by simpa using he
              have he3 : (E != 0) = true := by simp [he]
              have HK2 := hid hk2
              clear hk2 hK hdrop hx hat hat2 hE he
              go_wp2_with (go_at_call 65
                           refine HI.out.mono ?_
                           rintro e w3 ⟨rfl, hb3⟩
                           have H3 := hid (hP.out.below hb3)
                           clear hb3)
              go_ret2
              have := HK2.out
              simp only [Prod.mk.injEq] at this
              obtain ⟨rfl, rfl⟩ := this
              exact ⟨rfl, H3.out.hb⟩
          · have hk2 := hK.out
            rw [List.drop_eq_nil_of_le (by omega), codeChk] at hk2
            have HK2 := hid hk2
            obtain ⟨p0, p1, p2, -⟩ := vfacts hP.out.r0
            clear hk2 hK
            go_wp2
            go_ret2
            have := HK2.out
            simp only [Prod.mk.injEq] at this
            obtain ⟨rfl, rfl⟩ := this
            exact ⟨rfl, hP.out.hb⟩
      · have HR2 := HR.out
        rw [procChk, if_pos h1, if_pos h2, if_neg h3] at HR2
        simp only [Prod.mk.injEq] at HR2
        obtain ⟨rfl, rfl⟩ := HR2
        have h3' : (64 : Int) < (xs.length : Int) := by omega
        clear HR h1 h2 h3
        go_enter Tryz.func36, Tryz.ntmps36
        go_wp2_with (go_at_call 37; refine (HN.out _).mono ?_; rintro e w' ⟨rfl, e1⟩; rw [e1]; clear e1 w')
        go_ret2
        exact ⟨rfl, hB0.out⟩
    · have HR2 := HR.out
      rw [procChk, if_pos h1, if_neg h2] at HR2
      simp only [Prod.mk.injEq] at HR2
      obtain ⟨rfl, rfl⟩ := HR2
      clear HR h1
      by_cases g : ar < 0
      · have g1 : decide (ar < 0) = true := by simpa using g
        clear h2 g
        go_enter Tryz.func36, Tryz.ntmps36
        go_wp2_with (go_at_call 37; refine (HN.out _).mono ?_; rintro e w' ⟨rfl, e1⟩; rw [e1]; clear e1 w')
        go_ret2
        exact ⟨rfl, hB0.out⟩
      · have g1 : decide (ar < 0) = false := by simpa using g
        have g2 : decide (16 < ar) = true := by simp [withinB] at h2; simp; omega
        clear h2 g
        go_enter Tryz.func36, Tryz.ntmps36
        go_wp2_with (go_at_call 37; refine (HN.out _).mono ?_; rintro e w' ⟨rfl, e1⟩; rw [e1]; clear e1 w')
        go_ret2
        exact ⟨rfl, hB0.out⟩
  · have HR2 := HR.out
    rw [procChk, if_neg h1] at HR2
    simp only [Prod.mk.injEq] at HR2
    obtain ⟨rfl, rfl⟩ := HR2
    have h1' : nameB nm = false := by simpa using h1
    rw [h1'] at HN
    clear HR h1 h1'
    go_enter Tryz.func36, Tryz.ntmps36
    go_wp2_with (go_at_call 37; refine (HN.out _).mono ?_; rintro e w' ⟨rfl, e1⟩; rw [e1]; clear e1 w')
    go_ret2
    exact ⟨rfl, hB0.out⟩

end Go.Proofs.YtdnlfacfleemeaaGreat

namespace Go.Proofs.YtdnlfacfleemeaaGreat
open Go.RowKit Go.Lib

/-- While the document looks at a transaction. -/
structure Rtx (w W : World) (o : Obj) : Prop where
  r0 : W.heap[w.heap.size]? = some o
  hb : Below w.heap.size w W

theorem Rtx.below {w W W' : World} {o : Obj} (h : Rtx w W o) (hb : Below W.heap.size W W') : Rtx w W' o := ⟨blk_of hb h.r0 (lt_of h.r0), below_on h.hb hb⟩

theorem rtx_start (w : World) (o : Obj) : Rtx w (w.alloc o) o := ⟨heap_alloc_new w o, below1 w o⟩

set_option maxRecDepth 100000 in
set_option maxHeartbeats 1600000 in
theorem rtxn_def (B : Nat) (t : Txd) (S1 S2 : Value) (w : World) (h1 : CdAt B w S1 t.xs) (h2 : VsAt B w S2 t.vs) (hl : t.xs.length ≤ 1000000000) (hk : t.k = 1) :
    Calls Tryz.prog 19 #[txv t S1 S2] w fun x w' => x = .returned (.int .i64 (dchk t)) ∧ Below w.heap.size w w' := by
  have hB0 := hid (below1 w (txo t S1 S2 30))
  have HC := hid (fun W hW => rpcheck_any t.pn t.pa S1 t.xs W hW hl)
  have HH := hid h1.code
  obtain ⟨a1, c1, rfl⟩ := h1.form
  obtain ⟨a2, c2, rfl⟩ := h2.form
  clear h1 h2
  unfold dchk
  by_cases e1 : t.nm = emp
  · by_cases e2 : t.vs = []
    · rw [if_pos ⟨e1, e2⟩]
      obtain ⟨R1, R2, hR⟩ : ∃ R1 R2, procChk t.pn t.pa t.xs = (R1, R2) := ⟨_, _, rfl⟩
      rw [hR] at HC ⊢
      dsimp only at HC ⊢
      obtain ⟨k, pn, pa, xs, nm, vs⟩ := t
      dsimp only at *
      subst e1 e2 hk
      clear hR
      go_enter Tryz.func19, Tryz.ntmps19
      go_wp2_with (first
        | (go_at_call 36
           refine (HC.out _ (HH.out.below (below1 w _))).mono ?_
           rintro e w1 ⟨rfl, hb1⟩
           have H1 := hid (below_on hB0.out hb1)
           clear hb1))
      go_ret
      exact ⟨rfl, H1.out⟩
    · rw [if_neg (fun h => e2 h.2)]
      obtain ⟨k, pn, pa, xs, nm, vs⟩ := t
      dsimp only at *
      subst e1 hk
      have hp : (0 : Int) < (vs.length : Int) := by have := List.length_pos_iff.2 e2; omega
      clear e2
      go_enter Tryz.func19, Tryz.ntmps19
      go_wp2
      go_ret
      exact ⟨rfl, hB0.out⟩
  · rw [if_neg (fun h => e1 h.1)]
    obtain ⟨k, pn, pa, xs, nm, vs⟩ := t
    dsimp only at *
    subst hk
    obtain ⟨n1, n2⟩ := ne_emp e1
    clear e1
    go_enter Tryz.func19, Tryz.ntmps19
    go_wp2
    go_ret
    exact ⟨rfl, hB0.out⟩

set_option maxRecDepth 100000 in
set_option maxHeartbeats 3200000 in
theorem rtxn_call (B : Nat) (t : Txd) (S1 S2 : Value) (w : World) (h1 : CdAt B w S1 t.xs) (h2 : VsAt B w S2 t.vs) (hk : t.k = 2) :
    Calls Tryz.prog 19 #[txv t S1 S2] w fun x w' => x = .returned (.int .i64 (if cchk t = 0 then vsChk t.vs else cchk t)) ∧ Below w.heap.size w w' := by
  have hB0 := hid (below1 w (txo t S1 S2 30))
  have H0 := hid (rtx_start w (txo t S1 S2 30))
  have HC := hid (risName_any t.nm)
  have HS := hid h2
  obtain ⟨a1, c1, rfl⟩ := h1.form
  obtain ⟨a2, c2, rfl⟩ := h2.form
  clear h1 h2
  obtain ⟨C, hcc⟩ : ∃ C, cchk t = C := ⟨_, rfl⟩
  rw [hcc]
  unfold cchk at hcc
  obtain ⟨k, pn, pa, xs, nm, vs⟩ := t
  dsimp only at *
  subst hk
  by_cases e1 : pn = emp
  · by_cases e2 : pa = 0
    · by_cases e3 : xs = []
      · rw [if_pos ⟨e1, e2, e3⟩] at hcc
        subst e1 e2 e3
        by_cases e4 : nameB nm = true
        · rw [if_pos e4] at hcc
          rw [e4] at HC
          clear e4
          by_cases e5 : vs.length ≤ 16
          · rw [if_pos e5] at hcc
            subst hcc
            rw [if_pos rfl]
            have hp : decide ((16 : Int) < (vs.length : Int)) = false := by simp; omega
            obtain ⟨R, hR⟩ : ∃ R, R = vsChk vs := ⟨_, rfl⟩
            rw [← hR]
            have HR := hid hR
            clear hR
            go_enter Tryz.func19, Tryz.ntmps19
            go_wp2_with (first
              | (go_at_call 37
                 refine (HC.out _).mono ?_
                 rintro e w1 ⟨rfl, e1⟩
                 rw [e1]
                 clear e1 w1))
            go_loopw [6] (fun ix wr => ∃ (n : Nat), n ≤ vs.length ∧ ix = .int .i64 n ∧ Hid (Rtx w wr (txo ⟨2, emp, 0, [], nm, vs⟩ (.slice a1 ([] : List Ins).length c1) (.slice a2 vs.length c2) 30)) ∧ Hid (vsChk (vs.drop n) = R)) (fun ix _ => vs.length - (intOf ix).toNat)
            case atStart => exact ⟨0, Nat.zero_le _, rfl, H0, hid HR.out.symm⟩
            case round =>
              clear H0
              obtain ⟨n, hn, rfl, hP, hK⟩ := hrel
              obtain ⟨p0, p1, p2, p3, p4, p5, -⟩ := vfacts6 hP.out.r0
              by_cases hlt : n < vs.length
              · obtain ⟨v, hv⟩ : ∃ v, vs[n]? = some v := ⟨_, List.getElem?_eq_getElem hlt⟩
                obtain ⟨ao3, cap3, hao3, hcap3, hc3⟩ := HS.out
                obtain ⟨b3, off3, hb3, hB3, hat3⟩ := hc3 (by intro e; rw [e] at hlt; simp at hlt)
                injection hao3 with hao3 hx5 hx6
                clear hx5 hx6 hcap3
                rw [hb3] at hao3
                subst hao3
                have hvd := hat3 n v hv
                obtain ⟨c0, c1, c2⟩ := hvd.same (hP.out.hb.block b3 hvd.lt)
                have hlt2' : (n : Int) < (vs.length : Int) := by omega
                have hk3 := hK.out
                rw [drop_at hv, vsChk] at hk3
                have m3 := World.new_ne wr ⟨b3, off3 + n * 3, none⟩ c0
                have HT := hid (rcheck_any v.k v.i v.t)
                clear hc3 hat3 hvd hv hK hb3
                by_cases h0 : chk v.k v.i v.t = 0
                · rw [if_pos h0] at hk3
                  rw [h0] at HT
                  have HK3 := hid hk3
                  clear hk3 h0
                  go_wp2_with (first
                    | (go_at_call 38
                       refine (HT.out _).mono ?_
                       rintro e w3 ⟨rfl, hb3⟩
                       have H3 := hid (hP.out.below hb3)
                       clear hb3))
                  go_roundw
                  case rel => exact ⟨n + 1, by omega, by go_num, H3, HK3⟩
                  case measure => simp [intOf]; omega
                · rw [if_neg h0] at hk3
                  have he3 : (chk v.k v.i v.t == 0) = false := by simpa using h0
                  have HK3 := hid hk3
                  clear hk3 h0
                  generalize chk v.k v.i v.t = E at *
                  go_wp2_with (first
                    | (go_at_call 38
                       refine (HT.out _).mono ?_
                       rintro e w3 ⟨rfl, hb3⟩
                       have H3 := hid (hP.out.below hb3)
                       clear hb3))
                  go_ret
                  exact ⟨by rw [← HK3.out]; rfl, H3.out.hb⟩
              · have hdrop : vs.drop n = [] := List.drop_eq_nil_of_le (by omega)
                have hk3 := hK.out
                rw [hdrop, vsChk] at hk3
                have HK3 := hid hk3
                have hd2 : decide ((n : Int) < (vs.length : Int)) = false := by simp; omega
                clear hK hk3 hdrop
                go_wp2
                go_ret
                exact ⟨by rw [← HK3.out]; rfl, hP.out.hb⟩
          · rw [if_neg e5] at hcc
            subst hcc
            rw [if_neg (by decide)]
            have hp : (16 : Int) < (vs.length : Int) := by omega
            clear e5
            go_enter Tryz.func19, Tryz.ntmps19
            go_wp2_with (first
              | (go_at_call 37
                 refine (HC.out _).mono ?_
                 rintro e w1 ⟨rfl, e1⟩
                 rw [e1]
                 clear e1 w1))
            go_ret
            exact ⟨rfl, hB0.out⟩
        · rw [if_neg e4] at hcc
          subst hcc
          rw [if_neg (by decide)]
          have e4' : nameB nm = false := by simpa using e4
          rw [e4'] at HC
          clear e4 e4'
          go_enter Tryz.func19, Tryz.ntmps19
          go_wp2_with (first
            | (go_at_call 37
               refine (HC.out _).mono ?_
               rintro e w1 ⟨rfl, e1⟩
               rw [e1]
               clear e1 w1))
          go_ret
          exact ⟨rfl, hB0.out⟩
      · rw [if_neg (fun h => e3 h.2.2)] at hcc
        subst hcc
        rw [if_neg (by decide)]
        subst e1 e2
        have hp : (0 : Int) < (xs.length : Int) := by have := List.length_pos_iff.2 e3; omega
        clear e3
        go_enter Tryz.func19, Tryz.ntmps19
        go_wp2
        go_ret
        exact ⟨rfl, hB0.out⟩
    · rw [if_neg (fun h => e2 h.2.1)] at hcc
      subst hcc
      rw [if_neg (by decide)]
      subst e1
      have n1 : (pa == 0) = false := by simpa using e2
      have n2 : (pa != 0) = true := by simpa using e2
      clear e2
      go_enter Tryz.func19, Tryz.ntmps19
      go_wp2
      go_ret
      exact ⟨rfl, hB0.out⟩
  · rw [if_neg (fun h => e1 h.1)] at hcc
    subst hcc
    rw [if_neg (by decide)]
    obtain ⟨n1, n2⟩ := ne_emp e1
    clear e1
    go_enter Tryz.func19, Tryz.ntmps19
    go_wp2
    go_ret
    exact ⟨rfl, hB0.out⟩

set_option maxRecDepth 100000 in
set_option maxHeartbeats 1600000 in
theorem rtxn_no (t : Txd) (S1 S2 : Value) (w : World) (h1 : t.k ≠ 1) (h2 : t.k ≠ 2) :
    Calls Tryz.prog 19 #[txv t S1 S2] w fun x w' => x = .returned (.int .i64 1) ∧ Below w.heap.size w w' := by
  have hB0 := hid (below1 w (txo t S1 S2 30))
  have e1 : (t.k == 1) = false := by simpa using h1
  have e2 : (t.k == 2) = false := by simpa using h2
  clear h1 h2
  go_enter Tryz.func19, Tryz.ntmps19
  go_wp2
  go_ret
  exact ⟨rfl, hB0.out⟩

/-- The document's look at a transaction. -/
theorem rtxn_any (B : Nat) (t : Txd) (S1 S2 : Value) (w : World) (h1 : CdAt B w S1 t.xs) (h2 : VsAt B w S2 t.vs) (hl : TxL t) :
    Calls Tryz.prog 19 #[txv t S1 S2] w fun x w' => x = .returned (.int .i64 (txChk t)) ∧ Below w.heap.size w w' := by
  unfold txChk
  rw [txHead_eq]
  by_cases k1 : t.k = 1
  · rw [if_pos k1]
    have e : (if dchk t = 0 then vsChk t.vs else dchk t) = dchk t := by
      by_cases h0 : dchk t = 0
      · rw [if_pos h0, h0]
        unfold dchk at h0
        by_cases h3 : t.nm = emp ∧ t.vs = []
        · rw [h3.2]; rfl
        · rw [if_neg h3] at h0; exact absurd h0 (by decide)
      · rw [if_neg h0]
    rw [e]
    exact rtxn_def B t S1 S2 w h1 h2 hl.1 k1
  · rw [if_neg k1]
    by_cases k2 : t.k = 2
    · rw [if_pos k2]
      exact rtxn_call B t S1 S2 w h1 h2 k2
    · rw [if_neg k2, if_neg (by decide)]
      exact rtxn_no t S1 S2 w k1 k2

end Go.Proofs.YtdnlfacfleemeaaGreat

namespace Go.Proofs.YtdnlfacfleemeaaGreat
open Go.RowKit Go.Lib

set_option maxRecDepth 100000 in
set_option maxHeartbeats 3200000 in
/-- The document's Check. -/
theorem rbcheck_any (B : Nat) (f : Int) (S : Value) (ts : List Txd) (w : World) (h : TsAt B w S ts) (hL : ∀ t ∈ ts, TxL t) (hl : ts.length ≤ 1000000000) :
    Calls Tryz.prog 9 #[.agg #[.int .i64 f, S]] w fun x w' => x = .returned (.int .i64 (batChk f ts)) ∧ Below w.heap.size w w' := by
  have hB0 := hid (below1 w (bo f S))
  have H0 := hid (rtx_start w (bo f S))
  have HX := hid h
  have HL := hid hL
  obtain ⟨ao, cap, rfl, hcap, hcells⟩ := h
  have HC := hid hcells
  unfold batChk
  clear hL hcap hcells
  by_cases h1 : f < 1
  · rw [if_neg (by omega)]
    go_enter Tryz.func9, Tryz.ntmps9
    go_wp2
    go_ret
    exact ⟨rfl, hB0.out⟩
  · have d1 : decide (f < 1) = false := by simp; omega
    by_cases h2 : 281474976710655 < f
    · rw [if_neg (by omega)]
      clear h1
      go_enter Tryz.func9, Tryz.ntmps9
      go_wp2
      go_ret
      exact ⟨rfl, hB0.out⟩
    · have d2 : decide (281474976710655 < f) = false := by simp; omega
      by_cases h3 : ts.length < 1
      · rw [if_neg (by omega)]
        have h3' : (ts.length : Int) < 1 := by omega
        clear h1 h2 h3
        go_enter Tryz.func9, Tryz.ntmps9
        go_wp2
        go_ret
        exact ⟨rfl, hB0.out⟩
      · have d3 : decide ((ts.length : Int) < 1) = false := by simp; omega
        by_cases h4 : 64 < ts.length
        · rw [if_neg (by omega)]
          have h4' : (64 : Int) < (ts.length : Int) := by omega
          clear h1 h2 h3 h4 d3
          have d3 : decide ((ts.length : Int) < 1) = false := by simp; omega
          go_enter Tryz.func9, Tryz.ntmps9
          go_wp2
          go_ret
          exact ⟨rfl, hB0.out⟩
        · have d4 : decide ((64 : Int) < (ts.length : Int)) = false := by simp; omega
          rw [if_pos ⟨by omega, by omega, by omega, by omega⟩]
          have hv1 : wrap64 (f + (ts.length : Int)) = f + ts.length := by unfold wrap64; omega
          have hv2 : wrap64 (f + (ts.length : Int) - 1) = f + ts.length - 1 := by unfold wrap64; omega
          by_cases h5 : f + (ts.length : Int) - 1 ≤ 281474976710655
          · rw [if_pos h5]
            have d5 : decide ((281474976710655 : Int) < f + (ts.length : Int) - 1) = false := by simp; omega
            obtain ⟨R, hR⟩ : ∃ R, R = tsChk ts := ⟨_, rfl⟩
            rw [← hR]
            have HR := hid hR
            clear h1 h2 h3 h4 h5 hR
            go_enter Tryz.func9, Tryz.ntmps9
            go_wp2
            clear hv1 hv2
            go_loopw [3] (fun ix wr => ∃ (n : Nat), n ≤ ts.length ∧ ix = .int .i64 n ∧ Hid (Rtx w wr (bo f (.slice ao ts.length cap))) ∧ Hid (tsChk (ts.drop n) = R)) (fun ix _ => ts.length - (intOf ix).toNat)
            case atStart => exact ⟨0, Nat.zero_le _, rfl, H0, hid HR.out.symm⟩
            case round =>
              clear H0
              obtain ⟨n, hn, rfl, hP, hK⟩ := hrel
              obtain ⟨p0, p1, -⟩ := vfacts2 hP.out.r0
              by_cases hlt : n < ts.length
              · obtain ⟨t, ht⟩ : ∃ t, ts[n]? = some t := ⟨_, List.getElem?_eq_getElem hlt⟩
                obtain ⟨b, off, rfl, hBb, hat⟩ := HC.out (by intro e; rw [e] at hlt; simp at hlt)
                obtain ⟨S1, S2, hc, hS1, hS2⟩ := hat n t ht
                obtain ⟨c0, c1, c2, c3, c4, c5⟩ := hc.same (hP.out.hb.block b hc.lt)
                have hlt' : (n : Int) < (ts.length : Int) := by omega
                have hk2 := hK.out
                rw [drop_at ht, tsChk] at hk2
                have HTL := hid (HL.out t (List.mem_of_getElem? ht))
                have HS := hid (And.intro hS1 hS2)
                obtain ⟨a1, cc1, rfl⟩ := hS1.form
                obtain ⟨a2, cc2, rfl⟩ := hS2.form
                have HT := hid (fun W (hb : Below w.heap.size w W) => rtxn_any B t _ _ W (HS.out.1.same (Same.below hb)) (HS.out.2.same (Same.below hb)) HTL.out)
                clear hc hat ht hS1 hS2 hK
                by_cases h0 : txChk t = 0
                · rw [if_pos h0] at hk2
                  rw [h0] at HT
                  have HK2 := hid hk2
                  clear hk2 h0
                  go_wp2_with (first
                    | (go_at_call 19
                       refine (HT.out _ hP.out.hb).mono ?_
                       rintro e w2 ⟨rfl, hb2⟩
                       have H2 := hid (hP.out.below hb2)
                       clear hb2))
                  go_roundw
                  case rel => first | exact ⟨n + 1, by omega, by go_num, H2, HK2⟩ | ((repeat apply Exists.intro); exact ⟨⟨n + 1, by omega, by go_num, H2, HK2⟩, rfl⟩)
                  case measure => simp [intOf]; omega
                · rw [if_neg h0] at hk2
                  have he2 : (txChk t == 0) = false := by simpa using h0
                  have HK2 := hid hk2
                  clear hk2 h0
                  generalize txChk t = E at *
                  go_wp2_with (first
                    | (go_at_call 19
                       refine (HT.out _ hP.out.hb).mono ?_
                       rintro e w2 ⟨rfl, hb2⟩
                       have H2 := hid (hP.out.below hb2)
                       clear hb2))
                  go_ret
                  exact ⟨by rw [← HK2.out]; rfl, H2.out.hb⟩
              · have hdrop : ts.drop n = [] := List.drop_eq_nil_of_le (by omega)
                have hk2 := hK.out
                rw [hdrop, tsChk] at hk2
                have HK2 := hid hk2
                have hd2 : decide ((n : Int) < (ts.length : Int)) = false := by simp; omega
                clear hK hk2 hdrop
                go_wp2
                go_ret
                exact ⟨by rw [← HK2.out]; rfl, hP.out.hb⟩
          · rw [if_neg h5]
            have h5' : (281474976710655 : Int) < f + (ts.length : Int) - 1 := by omega
            clear h1 h2 h3 h4 h5
            go_enter Tryz.func9, Tryz.ntmps9
            go_wp2
            go_ret
            exact ⟨rfl, hB0.out⟩

end Go.Proofs.YtdnlfacfleemeaaGreat
