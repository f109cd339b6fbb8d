import Derived.Test.YtamajeagmkjjbaaBack5
namespace Go.Proofs.Ytamajeagmkjjbaa
open Go.RowKit

theorem takeZ_txt {n : Int} {bs : List Int} {at' a2 : Nat} {v : Int} {t : List Int} (hb : Oct bs) (h : takeZ 3 n bs at' 0 = ((v, t), a2, 0)) :
    Oct t ∧ at' ≤ a2 ∧ a2 - at' ≤ (bs.drop at').length ∧ rowF 10 t.length ++ t = (bs.drop at').take (a2 - at') := by
  unfold takeZ at h
  rw [if_pos rfl] at h
  by_cases h0 : (leadZ 3 (bs.drop at') n).2.2 = 0
  · rw [if_pos h0, if_pos rfl] at h
    obtain ⟨k, hk, k1, k2, hv, hrow⟩ := row_again 3 n _ (hb.drop at') (by omega) h0
    rw [hk] at h
    generalize (leadZ 3 (bs.drop at') n).1 = V at h hv hrow
    by_cases h1 : max n 0 < V
    · rw [if_pos h1] at h; simp at h
    · rw [if_neg h1] at h
      by_cases h2 : ((bs.drop at').length : Int) - k < V
      · rw [if_pos h2] at h; simp at h
      · rw [if_neg h2] at h
        obtain ⟨m, rfl⟩ : ∃ m : Nat, V = m := ⟨V.toNat, by omega⟩
        injection h with ha hb'
        injection ha with ha1 ha2
        injection hb' with hc _
        generalize hd : bs.drop at' = d at *
        have hod : Oct d := hd ▸ hb.drop at'
        simp only [Int.toNat_natCast] at ha2
        have hc' : a2 = at' + (k + m) := by omega
        subst ha2 hc'
        have hlen : ((d.drop k).take m).length = m := by rw [List.length_take, List.length_drop]; omega
        refine ⟨(hod.drop k).take m, by omega, by omega, ?_⟩
        rw [hlen, hrow, show at' + (k + m) - at' = k + m by omega, List.take_add]
  · rw [if_neg h0] at h
    injection h with _ hb'
    injection hb' with _ hc
    exact absurd hc h0

/-- What was taken for an Item, laid again, is the bytes that were taken. -/
theorem again_one (x : It) (bs acc : List Int) (hb : Oct bs) (at' a2 : Nat) (g : Int × Int × List Int) (ha : at' ≤ bs.length) (h : itZ x bs at' 0 = (g, a2, 0)) :
    at' ≤ a2 ∧ a2 ≤ bs.length ∧ layZ (acc, 0) (x.got g) = (acc ++ (bs.drop at').take (a2 - at'), 0) := by
  have hdl : (bs.drop at').length = bs.length - at' := List.length_drop
  unfold itZ at h
  unfold layZ
  by_cases h1 : x.kind = 1
  · rw [if_pos h1] at h
    obtain ⟨hg, h'⟩ := Prod.mk.inj h
    obtain ⟨hn0, hn8, -, hc, hle, hv⟩ := takeZ_fix hb (v := (takeZ 0 1 bs at' 0).1.1) (t := (takeZ 0 1 bs at' 0).1.2) (a2 := a2) (by rw [← h'])
    rw [show (1 : Int).toNat = 1 from rfl] at hc hle hv
    refine ⟨by omega, by omega, ?_⟩
    rw [if_pos (show (x.got g).kind = 1 from h1)]
    unfold wfixZ
    rw [if_pos rfl, if_neg (by omega), show (x.got g).u = g.1 from rfl, ← hg, hv, hc, show at' + 1 - at' = 1 by omega]
    have hl : ((bs.drop at').take 1).length = 1 := by rw [List.length_take]; omega
    have ho : Oct ((bs.drop at').take 1) := (hb.drop at').take 1
    have e := fixedB_leZ _ ho
    have bd := leZ_bd _ ho
    rw [hl] at e bd
    rw [show leZ ((bs.drop at').take 1) % 256 = leZ ((bs.drop at').take 1) by omega]
    rw [show (1 : Int).toNat = 1 from rfl, e]
  · rw [if_neg h1] at h
    rw [if_neg (show ¬ (x.got g).kind = 1 from h1)]
    by_cases h2 : x.kind = 2
    · rw [if_pos h2] at h
      rw [if_pos (show (x.got g).kind = 2 from h2)]
      obtain ⟨hg, h'⟩ := Prod.mk.inj h
      obtain ⟨hn0, hn8, -, hc, hle, hv⟩ := takeZ_fix hb (v := (takeZ 0 x.n bs at' 0).1.1) (t := (takeZ 0 x.n bs at' 0).1.2) (a2 := a2) (by rw [← h'])
      have hn : (x.got g).n = x.n := by unfold It.got; dsimp only; rw [if_neg (by omega)]
      refine ⟨by omega, by omega, ?_⟩
      unfold wfixZ
      rw [if_pos rfl, hn, if_neg (by omega), show (x.got g).u = g.1 from rfl, ← hg, hv, hc, show at' + x.n.toNat - at' = x.n.toNat by omega]
      have hl : ((bs.drop at').take x.n.toNat).length = x.n.toNat := by rw [List.length_take]; omega
      have e := fixedB_leZ _ ((hb.drop at').take x.n.toNat)
      rw [hl] at e
      rw [e]
    · rw [if_neg h2] at h
      rw [if_neg (show ¬ (x.got g).kind = 2 from h2)]
      by_cases h3 : x.kind = 3
      · rw [if_pos h3] at h
        rw [if_pos (show (x.got g).kind = 3 from h3)]
        obtain ⟨hg, h'⟩ := Prod.mk.inj h
        obtain ⟨hv0, -, hle, hmax, hrow⟩ := takeZ_row (f := 1) hb (v := (takeZ 1 0 bs at' 0).1.1) (t := (takeZ 1 0 bs at' 0).1.2) (a2 := a2) (n := 0) (by omega) (by omega) (by rw [← h'])
        have hn : (x.got g).n = (takeZ 1 0 bs at' 0).1.1 := by unfold It.got; dsimp only; rw [if_pos h3, ← hg]
        refine ⟨hle, by omega, ?_⟩
        unfold wnumZ
        rw [if_pos rfl, hn, if_neg (by omega), hrow]
      · rw [if_neg h3] at h
        rw [if_neg (show ¬ (x.got g).kind = 3 from h3)]
        by_cases h4 : x.kind = 4
        · rw [if_pos h4] at h
          rw [if_pos (show (x.got g).kind = 4 from h4)]
          obtain ⟨hg, h'⟩ := Prod.mk.inj h
          obtain ⟨hv0, -, hle, hmax, hrow⟩ := takeZ_row (f := 2) hb (v := (takeZ 2 0 bs at' 0).1.1) (t := (takeZ 2 0 bs at' 0).1.2) (a2 := a2) (n := 0) (by omega) (by omega) (by rw [← h'])
          have hn : (x.got g).i = unfoldZ (takeZ 2 0 bs at' 0).1.1 := by unfold It.got; dsimp only; rw [← hg]
          refine ⟨hle, by omega, ?_⟩
          unfold wintZ
          rw [if_pos rfl, hn, fold_unfold _ hv0, hrow]
        · rw [if_neg h4] at h
          rw [if_neg (show ¬ (x.got g).kind = 4 from h4)]
          by_cases h5 : x.kind = 5
          · rw [if_pos h5] at h
            rw [if_pos (show (x.got g).kind = 5 from h5)]
            obtain ⟨hg, h'⟩ := Prod.mk.inj h
            obtain ⟨ho, hle, hmax, hrow⟩ := takeZ_txt hb (v := (takeZ 3 x.n bs at' 0).1.1) (t := (takeZ 3 x.n bs at' 0).1.2) (a2 := a2) (n := x.n) (by rw [← h'])
            have hn : (x.got g).s = mkStr (takeZ 3 x.n bs at' 0).1.2 := by unfold It.got; dsimp only; rw [← hg]
            refine ⟨hle, by omega, ?_⟩
            unfold wtextZ
            rw [if_pos rfl, hn, strBs_mkStr _ ho, List.append_assoc, hrow]
          · rw [if_neg h5] at h
            rw [if_neg (show ¬ (x.got g).kind = 5 from h5)]
            obtain ⟨-, h'⟩ := Prod.mk.inj h
            obtain ⟨rfl, -⟩ := Prod.mk.inj h'
            simp [ha]

end Go.Proofs.Ytamajeagmkjjbaa
