import Derived.Test.YthcoigbkdbkojaaGreatK30
namespace Go.Proofs.YthcoigbkdbkojaaGreat
open Go.RowKit Go.MapKept
open V (hp_new hp_lt hp_below hp_alloc kl)

/-- Within one look. -/
def w1B (key : ByteArray) (x : ByteArray × ByteArray) : Bool := !kl key x.1 && (decide (x.2 = emp) || !kl x.2 key)
def wB (key : ByteArray) (lk : List (ByteArray × ByteArray)) : Bool := lk.any (w1B key)

theorem wB_iff {key : ByteArray} {lk : List (ByteArray × ByteArray)} : wB key lk = true ↔ inL lk key := by
  unfold wB inL
  rw [List.any_eq_true]
  refine exists_congr fun x => and_congr_right fun _ => ?_
  unfold w1B
  simp

theorem wB_no {key : ByteArray} {lk : List (ByteArray × ByteArray)} (h : wB key lk = false) : ¬ inL lk key := fun h2 => by rw [wB_iff.2 h2] at h; cases h

set_option maxRecDepth 100000 in
set_option maxHeartbeats 3200000 in
theorem within_look (key : ByteArray) (v : Value) (lk : List (ByteArray × ByteArray)) (w : World) (hl : lk.length ≤ 1000) (h : Rf w 2 v lk.length (lk.flatMap lcs)) :
    Calls Tryz.prog 21 #[.string key, v] w fun e w' => e = .returned (.bool (wB key lk)) ∧ Below w.heap.size w w' := by
  obtain ⟨ao, ca, rfl, hca, -⟩ := h.shape
  have H := hid h
  obtain ⟨R, hR⟩ : ∃ R, wB key lk = R := ⟨_, rfl⟩
  rw [hR]
  have HR := hid hR
  clear h hR
  go_enter Tryz.func21, Tryz.ntmps21
  go_wp2_with fail
  go_loopw [5] (fun ix wr => ∃ k : Nat, k ≤ lk.length ∧ ix = .int .i64 k ∧ Hid (Below w.heap.size w wr ∧ wB key (lk.take k) = false)) (fun ix _ => lk.length - (intOf ix).toNat)
  case atStart => exact ⟨0, Nat.zero_le _, by go_num, hid ⟨Below.refl _ _, rfl⟩⟩
  case round =>
    obtain ⟨k, hk, rfl, HK⟩ := hrel
    by_cases hlt : k < lk.length
    · have i1 : (k : Int) < (lk.length : Int) := by omega
      have i2 : k < 1000 := by omega
      obtain ⟨b, off, cap, e, -, -, hc⟩ := Rf.elem (f := lcs) (fun _ => rfl) (by omega) (H.out.below HK.out.1) k hlt
      injection e with e1 _ e3
      subst e1 e3
      have hget : lk[k]? = some lk[k] := List.getElem?_eq_getElem hlt
      obtain ⟨x, hx⟩ : ∃ x, x = lk[k] := ⟨_, rfl⟩
      rw [← hx] at hc hget
      have hmem : x ∈ lk := by rw [hx]; exact List.getElem_mem hlt
      clear hx
      have hyes : w1B key x = true → R = true := fun h1 => by
        rw [← HR.out]
        exact List.any_eq_true.2 ⟨x, hmem, h1⟩
      have hnot : w1B key x = false → wB key (lk.take (k + 1)) = false := fun h1 => by
        unfold wB
        rw [List.take_add_one, hget, List.any_append]
        have h2 := HK.out.2
        unfold wB at h2
        rw [h2]
        simpa using h1
      obtain ⟨f, t⟩ := x
      have c0 : wr.cell? ⟨b, off + k * 2, none⟩ = some (.string f) := hc 0 _ rfl
      have c1 : wr.cell? ⟨b, off + k * 2 + 1, none⟩ = some (.string t) := hc 1 _ rfl
      have hbz := World.block_lt_of_cell? _ _ c0
      dsimp only at hbz
      clear hc hget hmem hk
      have HKL := hid hlt
      cases q1 : Op.bytesLess key.toList f.toList
      · by_cases e : t = emp
        · have hr := hyes (by unfold w1B; rw [show kl key f = false from q1]; simp [e])
          subst e hr
          clear hyes hnot
          go_wp2_with fail
          go_ret
          exact ⟨rfl, HK.out.1⟩
        · have q2 : (t.toList == []) = false := by
            have h1 := V.keq_false e
            simpa using h1
          cases q3 : Op.bytesLess t.toList key.toList
          · have hr := hyes (by unfold w1B; rw [show kl key f = false from q1, show kl t key = false from q3]; simp)
            subst hr
            clear hyes hnot
            by_cases e2 : key = t
            · subst e2
              clear e q3
              go_wp2_with fail
              go_ret
              exact ⟨rfl, HK.out.1⟩
            · have q4 : Op.bytesLess key.toList t.toList = true := by
                cases e3 : Op.bytesLess key.toList t.toList
                · exact absurd (V.kl_tri e3 q3) e2
                · rfl
              have q5 := V.keq_false e2
              clear e e2
              go_wp2_with fail
              go_ret
              exact ⟨rfl, HK.out.1⟩
          · have hn := hid (hnot (by unfold w1B; rw [show kl t key = true from q3]; simp [e]))
            have q4 : Op.bytesLess key.toList t.toList = false := V.kl_asymm q3
            have q5 : (key.toList == t.toList) = false := V.keq_false (fun e => by rw [e] at q3; exact absurd q3 (by rw [show Op.bytesLess t.toList t.toList = false from V.kl_irrefl t]; decide))
            clear hyes hnot e
            go_wp2_with fail
            go_roundw
            case rel => exact ⟨k + 1, by omega, by go_num, hid ⟨HK.out.1, hn.out⟩⟩
            case measure => simp [intOf]; omega
      · have hn := hid (hnot (by unfold w1B; rw [show kl key f = true from q1]; simp))
        clear hyes hnot
        go_wp2_with fail
        go_roundw
        case rel => exact ⟨k + 1, by omega, by go_num, hid ⟨HK.out.1, hn.out⟩⟩
        case measure => simp [intOf]; omega
    · obtain rfl : lk.length = k := by omega
      have i1 : ¬ (lk.length : Int) < (lk.length : Int) := by omega
      have hr : R = false := by
        have h2 := HK.out.2
        rw [List.take_length] at h2
        rw [← HR.out, h2]
      subst hr
      go_wp2_with fail
      go_ret
      exact ⟨rfl, HK.out.1⟩

/-! The other state. -/
theorem lkp_rm {k key : ByteArray} (h : key ≠ k) : ∀ l : KV, lkp key (rmE k l) = lkp key l
  | [] => rfl
  | y :: l => by
    unfold rmE
    rw [List.filter_cons]
    by_cases e : y.1 = k
    · rw [if_neg (by simp [e])]
      rw [lkp_cons, if_neg (by rw [e]; exact Ne.symm h)]
      exact lkp_rm h l
    · rw [if_pos (by simp [V.keq_false e]), lkp_cons, lkp_cons]
      split
      · rfl
      · exact lkp_rm h l

theorem lkp_putE {x : ByteArray × Vd} {key : ByteArray} (h : key ≠ x.1) : ∀ l : KV, lkp key (putE x l) = lkp key l
  | [] => by unfold putE; rw [lkp_cons, if_neg (Ne.symm h)]
  | y :: l => by
    unfold putE
    split
    · rw [lkp_cons, if_neg (Ne.symm h)]
      exact lkp_rm h (y :: l)
    · rw [lkp_cons, lkp_cons, lkp_putE h l]

theorem lkp_putG {x : ByteArray × Vd} {key : ByteArray} (h : key ≠ x.1) (l : KV) : lkp key (putG x l) = lkp key l := by
  unfold putG
  split
  · exact lkp_rm h l
  · exact lkp_putE h l

/-- What the law makes of the state. -/
structure Oth (S : KV) (lk : List (ByteArray × ByteArray)) (T : KV) (n : Nat) : Prop where
  ok : SOk T
  ag : Agr S T lk
  len : T.length ≤ n
  ir : ∀ x ∈ T, inR x.2.i = true

theorem Oth.put {S T : KV} {lk : List (ByteArray × ByteArray)} {n : Nat} (h : Oth S lk T n) {x : ByteArray × Vd} (hg : goodE x = true) (hi : inR x.2.i = true) (hw : wB x.1 lk = false) : Oth S lk (putG x T) (n + 1) := by
  refine ⟨putG_ok h.ok hg, fun k hk => ?_, ?_, fun z hz => ?_⟩
  · rw [lkp_putG (fun e => wB_no hw (by rw [← e]; exact hk))]
    exact h.ag k hk
  · have := putG_len x T
    have := h.len
    omega
  · rcases putG_mem h.ok hz with e | e
    · rw [e]; exact hi
    · exact h.ir z e

theorem Oth.rm {S T : KV} {lk : List (ByteArray × ByteArray)} {n : Nat} (h : Oth S lk T n) {key : ByteArray} (hw : wB key lk = false) : Oth S lk (putG (key, ⟨0, 0, emp⟩) T) n := by
  have e : putG (key, ⟨0, 0, emp⟩) T = rmE key T := by unfold putG; rw [if_pos rfl]
  rw [e]
  refine ⟨⟨rmE_asc h.ok.asc, fun z hz => h.ok.el z (rmE_mem.1 hz).1⟩, fun k hk => ?_, Nat.le_trans (List.length_filter_le _ _) h.len, fun z hz => h.ir z (rmE_mem.1 hz).1⟩
  rw [lkp_rm (fun e => wB_no hw (by rw [← e]; exact hk))]
  exact h.ag k hk

theorem Oth.up {S T : KV} {lk : List (ByteArray × ByteArray)} {n m : Nat} (h : Oth S lk T n) (hm : n ≤ m) : Oth S lk T m := ⟨h.ok, h.ag, Nat.le_trans h.len hm, h.ir⟩
theorem oth0 {S : KV} {lk : List (ByteArray × ByteArray)} (h : SOk S) (hi : ∀ x ∈ S, inR x.2.i = true) : Oth S lk S S.length := ⟨h, fun _ _ => rfl, Nat.le_refl _, hi⟩

end Go.Proofs.YthcoigbkdbkojaaGreat
