import Derived.Test.YtlmompdfombgeaaGreatSt
namespace Go.Proofs.YtlmompdfombgeaaGreat
open Go.RowKit

/-- The cells of element k. -/
theorem Rf.elem {w : World} {α : Type} {f : α → List Value} {m : Nat} {v : Value} {xs : List α} (hf : ∀ x, (f x).length = m) (hm : 0 < m) (h : Rf w m v xs.length (xs.flatMap f)) (k : Nat) (hk : k < xs.length) :
    ∃ b off cap, v = .slice (some ⟨b, off, none⟩) xs.length cap ∧ xs.length ≤ cap ∧ cap ≤ maxLen ∧ ∀ c u, (f xs[k])[c]? = some u → w.cell? ⟨b, off + k * m + c, none⟩ = some u := by
  obtain ⟨b, off, cap, rfl, h1, h2, h3⟩ := h.lits (by omega) hm
  refine ⟨b, off, cap, rfl, h1, h2, fun c u hu => ?_⟩
  have hc : c < m := by
    rcases Nat.lt_or_ge c m with h | h
    · exact h
    · rw [List.getElem?_eq_none (by rw [hf]; exact h)] at hu
      cases hu
  have := h3 (k * m + c) u (by rw [flat_get f m hf _ _ _ hc]; simp [hk, hu])
  rwa [← Nat.add_assoc] at this

/-- A step that is not too much. -/
def Sp.small (x : Sp) : Prop := x.data.length ≤ 200000 ∧ x.name.size ≤ 200000 ∧ x.to.size ≤ 200000 ∧ x.fs.length ≤ 300 ∧ x.fr.length ≤ 300 ∧ x.pk.length ≤ 300 ∧ ∀ p ∈ x.pk, p.lost.length ≤ 300

/-- What 'much' tells. -/
def MuchPost (xs : List Sp) (x : Ending) : Prop := ∃ r, x = .returned (.bool r) ∧ (r = false → xs.length ≤ 200 ∧ ∀ x ∈ xs, x.small)

theorem muchTrue (xs : List Sp) : MuchPost xs (.returned (.bool true)) := ⟨true, rfl, fun h => by cases h⟩

set_option maxRecDepth 100000 in
set_option maxHeartbeats 1600000 in
theorem much_any (v : Value) (xs : List Sp) (w : World) (h : Sps w v xs) :
    Calls Tryz.prog 13 #[v] w fun x w' => Below w.heap.size w w' ∧ MuchPost xs x := by
  obtain ⟨ao, cap, rfl, hc, hcm⟩ := h.1.shape
  unfold maxLen at hcm
  have HS := hid h
  clear h
  by_cases h1 : 200 < xs.length
  · go_enter Tryz.func13, Tryz.ntmps13
    go_wp2
    go_ret
    exact ⟨Below.refl _ _, muchTrue xs⟩
  · go_enter Tryz.func13, Tryz.ntmps13
    go_wp2
    go_loopw [3, 4] (fun n i wr => ∃ (k t : Nat), k ≤ xs.length ∧ i = .int .i64 k ∧ n = .int .i64 t ∧ t ≤ k * 600000 ∧ Hid (Below w.heap.size w wr) ∧ Hid (∀ j x, j < k → xs[j]? = some x → x.small)) (fun _ i _ => xs.length - (intOf i).toNat)
    case atStart => exact ⟨0, 0, Nat.zero_le _, rfl, rfl, by omega, hid (Below.refl _ _), hid (fun j x h => by omega)⟩
    case round =>
      obtain ⟨k, t, hk, rfl, rfl, ht, HB, HP⟩ := hrel
      by_cases hlt : k < xs.length
      · obtain ⟨b, off, cap', e, -, -, hcell⟩ := Rf.elem (f := scs) (fun _ => rfl) (by omega) HS.out.1 k hlt
        injection e with e1 e2 e3
        subst e1 e3
        clear e2
        have hok := HS.out.2 xs[k] (List.getElem_mem hlt)
        obtain ⟨x, hxe⟩ : ∃ x, x = xs[k] := ⟨_, rfl⟩
        rw [← hxe] at hcell hok
        have HX := hid hxe
        obtain ⟨kind, name, to, dv, data, nn, sv, fs, rv, fr, pn, fv, pk⟩ := x
        obtain ⟨-, -, -, hn1, hn2, hdt, -, hfs, -, hfr, -, hpk, hpo⟩ := hok
        obtain ⟨a1, q1, e1, d1, d2⟩ := hdt.shape
        obtain ⟨a2, q2, e2, d3, d4⟩ := hfs.shape
        obtain ⟨a3, q3, e3, d5, d6⟩ := hfr.shape
        obtain ⟨a4, q4, e4, d7, d8⟩ := hpk.shape
        dsimp only at e1 e2 e3 e4 hn1 hn2
        subst e1 e2 e3 e4
        have hb := HB.out
        have cc : ∀ c u, (scs ⟨kind, name, to, .slice a1 data.length q1, data, nn, .slice a2 fs.length q2, fs, .slice a3 fr.length q3, fr, pn, .slice a4 pk.length q4, pk⟩)[c]? = some u → wr.cell? ⟨b, off + k * 9 + c, none⟩ = some u := fun c u hu => (hb.cell (World.block_lt_of_cell? _ _ (hcell c u hu))).trans (hcell c u hu)
        have c0 : wr.cell? ⟨b, off + k * 9, none⟩ = _ := cc 0 _ rfl
        have c1 := cc 1 _ rfl
        have c2 := cc 2 _ rfl
        have c3 := cc 3 _ rfl
        have c4 := cc 4 _ rfl
        have c5 := cc 5 _ rfl
        have c6 := cc 6 _ rfl
        have c7 := cc 7 _ rfl
        have c8 := cc 8 _ rfl
        dsimp only at d1 d2 d3 d4 d5 d6 d7 d8 hpk hpo
        unfold maxLen at d2 d4 d6 d8 hn1 hn2
        have HK := hid (And.intro hpk hpo)
        clear hcell hdt hfs hfr hpk hpo hb cc hxe

        by_cases z1 : 200000 < data.length
        · go_wp2
          go_ret
          exact ⟨HB.out.alloc (HB.out.size) _, muchTrue xs⟩
        by_cases z2 : 200000 < name.size
        · go_wp2
          go_ret
          exact ⟨HB.out.alloc (HB.out.size) _, muchTrue xs⟩
        by_cases z3 : 200000 < to.size
        · go_wp2
          go_ret
          exact ⟨HB.out.alloc (HB.out.size) _, muchTrue xs⟩
        by_cases z4 : 300 < fs.length
        · go_wp2
          go_ret
          exact ⟨HB.out.alloc (HB.out.size) _, muchTrue xs⟩
        by_cases z5 : 300 < fr.length
        · go_wp2
          go_ret
          exact ⟨HB.out.alloc (HB.out.size) _, muchTrue xs⟩
        by_cases z6 : 300 < pk.length
        · go_wp2
          go_ret
          exact ⟨HB.out.alloc (HB.out.size) _, muchTrue xs⟩
        go_wp2
        go_loop [6] (fun i => ∃ (j : Nat), j ≤ pk.length ∧ i = .int .i64 j ∧ Hid (∀ i p, i < j → pk[i]? = some p → p.lost.length ≤ 300)) (fun i => pk.length - (intOf i).toNat)
        case atStart => exact ⟨0, Nat.zero_le _, rfl, hid (fun j x h => by omega)⟩
        case round =>
          obtain ⟨j, hj, rfl, HJ⟩ := hrel
          by_cases hjl : j < pk.length
          · obtain ⟨b2, off2, cap2, e, -, -, hcell⟩ := Rf.elem (f := pcs) (fun _ => rfl) (by omega) HK.out.1 j hjl
            injection e with e1 e2 e3
            subst e1 e3
            clear e2
            have hpok := HK.out.2 pk[j] (List.getElem_mem hjl)
            obtain ⟨y, hye⟩ : ∃ y, y = pk[j] := ⟨_, rfl⟩
            rw [← hye] at hcell hpok
            obtain ⟨dn, lv, lost⟩ := y
            obtain ⟨-, hln, -, -⟩ := hpok
            obtain ⟨a5, q5, e5, d9, d10⟩ := hln.shape
            dsimp only at e5
            subst e5
            have y1 := hcell 1 _ rfl
            have hb1 := HB.out.alloc (HB.out.size) (.cells #[.int .i64 kind, .string name, .string to, .slice a1 data.length q1, .int .i64 nn, .slice a2 fs.length q2, .slice a3 fr.length q3, .int .i64 pn, .slice (some ⟨b2, off2, none⟩) pk.length q4] 43)
            have y2 := (hb1.cell (World.block_lt_of_cell? _ _ y1)).trans y1
            have HY := hid hye
            dsimp only at d9 d10
            unfold maxLen at d10
            clear hcell hln y1 hb1 hye
            by_cases z7 : 300 < lost.length
            · go_wp2
              go_ret
              exact ⟨HB.out.alloc (HB.out.size) _, muchTrue xs⟩
            · go_wp2
              go_round
              case rel =>
                refine ⟨j + 1, by omega, by go_num, hid (fun i p hi hp => ?_)⟩
                by_cases e : i = j
                · subst e
                  simp [hjl] at hp
                  rw [← HY.out] at hp
                  rw [← hp]
                  exact (by omega : lost.length ≤ 300)
                · exact HJ.out i p (by omega) hp
              case measure => simp [intOf]; omega
          · go_wp2
            go_roundw
            case rel =>
              refine ⟨k + 1, t + data.length + name.size + to.size, by omega, by go_num, by go_num, by omega, hid (HB.out.alloc HB.out.size _), hid (fun i p hi hp => ?_)⟩
              by_cases e : i = k
              · subst e
                simp [hlt] at hp
                rw [← HX.out] at hp
                rw [← hp]
                refine ⟨by dsimp only; omega, by dsimp only; omega, by dsimp only; omega, by dsimp only; omega, by dsimp only; omega, by dsimp only; omega, fun p hp2 => ?_⟩
                obtain ⟨i2, hi2, rfl⟩ := List.getElem_of_mem hp2
                dsimp only at hi2
                exact HJ.out i2 _ (by omega) (by simp [hi2])
              · exact HP.out i p (by omega) hp
            case measure => simp [intOf]; omega
      · obtain rfl : k = xs.length := by omega
        go_wp2
        go_ret
        refine ⟨HB.out, _, rfl, ?_⟩
        intro h
        refine ⟨by omega, fun x hx => ?_⟩
        obtain ⟨i, hi, rfl⟩ := List.getElem_of_mem hx
        exact HP.out i _ hi (by simp [hi])

end Go.Proofs.YtlmompdfombgeaaGreat
