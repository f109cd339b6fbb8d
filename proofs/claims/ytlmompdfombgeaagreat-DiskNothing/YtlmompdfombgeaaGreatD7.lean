import Derived.Test.YtlmompdfombgeaaGreatD6
import Derived.Test.YtlmompdfombgeaaGreatD3
namespace Go.Proofs.YtlmompdfombgeaaGreat
open Go.RowKit Go.MapKept

theorem cell_cells {w : World} {k o : Nat} {v : Value} (h : w.cell? ⟨k, o, none⟩ = some v) : ∃ cs t fr, w.heap[k]? = some (.cells cs t fr) := by
  unfold World.cell? at h
  dsimp only at h
  split at h
  · rename_i cs t fr hh
    exact ⟨cs, t, fr, hh⟩
  · cases h

theorem cell_ne_map {w : World} {k b o : Nat} {v : Value} {es : Array MapEntry} {c : Nat} (h : w.cell? ⟨k, o, none⟩ = some v) (hb : w.heap[b]? = some (.map es c)) : k ≠ b := by
  obtain ⟨cs, t, fr, hh⟩ := cell_cells h
  exact hp_ne hh hb (by simp)

theorem sl_none (w : World) : Sl w (.slice none 0 0) [] := ⟨none, 0, rfl, Nat.le_refl _, fun h => absurd rfl h⟩

set_option maxRecDepth 100000 in
set_option maxHeartbeats 1000000 in
theorem create1_any (B d xd xn : Nat) (f : Value) (nm : ByteArray) (w : World) (room limit : Int) (L : Nat) (made : Int) (Nb : Nat) (F vn : Value) (off : Bool) (st : Int) (k1 : Value) (rd : Int) (k2 : Value) (fs es : Array MapEntry) (c cN n : Nat) (xs : List Value)
    (hD : DiskB w d room limit (.map (some L)) made (.map (some Nb)) F vn off st k1 rd k2) (hL : w.heap[L]? = some (.map fs c)) (hN : w.heap[Nb]? = some (.map es cN)) (hLN : L ≠ Nb) (hB : B ≤ w.heap.size) (hv : w.ownsRow B 121 3 vn n xs) (hn : n ≤ 1000000)
    (hxd : w.cell? ⟨xd, 0, none⟩ = some (.pointer (some ⟨d, 0, none⟩))) (hxn : w.cell? ⟨xn, 0, none⟩ = some (.string nm))
    (hd1 : xd ≠ d) (hd2 : xn ≠ d)
    (hlim : (fs.size : Int) < limit) (hm0 : 0 ≤ made) (hm : made ≤ 1000000000) (hs : nm.size ≤ 1000000) (hne : nm.toList.isEmpty = false)
    (h1 : Instr.findNow (.int .i64) (.int .i64 (made + 1)) fs.toList 0 = some none) (h2 : Instr.findNow .string (.string ⟨#[]⟩) es.toList 0 = some none) (h3 : Instr.findNow .string (.string nm) es.toList 0 = some none) :
    Calls Tryz.prog 77 #[f, .pointer (some ⟨xd, 0, none⟩), .pointer (some ⟨xn, 0, none⟩)] w fun x w' => x = .returned (.int .i64 0) ∧ ∃ p vs vd vf vn', w.heap.size ≤ p ∧ FileAt w' w.heap.size p [] [] [] [] 0 vs (.slice none 0 0) vd vf ∧
      DiskB w' d room limit (.map (some L)) (made + 1) (.map (some Nb)) F vn' off st k1 rd k2 ∧ w'.heap[L]? = some (.map (fs.push { key := .int .i64 (made + 1), val := .pointer (some ⟨p, 0, none⟩), born := c }) (c + 1)) ∧ w'.heap[Nb]? = some (.map (es.push { key := .string nm, val := .int .i64 (made + 1), born := cN }) (cN + 1)) ∧
      w'.ownsRow B 121 3 vn' (n + 1) (xs ++ [.string ⟨#[]⟩, .string nm, .int .i64 (made + 1)]) ∧ Kept (fun k => k = d ∨ k = L ∨ k = Nb ∨ vn.ownBlock = some k) w w' := by
  obtain ⟨c0, c1, c2, c3, c4, c5, c6, c7, c8, c9, c10, c11⟩ := hD.cells
  have hlen : ∀ m ty, (Builtin.len_ #[46] ty #[.map (some L)]).run Tryz.prog (w.drewN m) = .ok (.int .i64 fs.size) (w.drewN m) := fun m ty => len_map (w := w.drewN m) Tryz.underlying46 hL ty
  have j : decide (limit ≤ (fs.size : Int)) = false := by simp; omega
  have HX := hid (And.intro hD (And.intro hL (And.intro hN hv)))
  have H1 := hid h1
  have H2 := hid h2
  have H3 := hid h3
  clear c0 c3 c4 c5 c6 c7 c8 c9 c10 c11 hD hL hN hv h1 h2 h3
  go_enter Tryz.func77, Tryz.ntmps77
  go_wp2
  go_quiet (fail)
  go_wp2_with fail
  go_region_with (
    first
    | (go_at_call 79
       refine (add_any d _ [] (w.drewN (nq + 1)) room limit L made (.map (some Nb)) F vn off st k1 rd k2 fs c HX.out.1 HX.out.2.1 H1.out hm0 hm (sl_none _) (by simp) (by simp [Value.ownBlock])).mono ?_
       rintro e w1 ⟨rfl, p, vs, vd, vf, hp, hfile, hD1, hL1, hk0⟩
       have hk1 : Kept (fun k => k = d ∨ k = L) w w1 := ⟨hk0.os, hk0.tape, hk0.output, hk0.size, hk0.block⟩
       have hp' : w.heap.size ≤ p := hp
       have hfile' : FileAt w1 w.heap.size p [] [] [] [] 0 vs (.slice none 0 0) vd vf := hfile
       have e1 := (show w1.cell? ⟨xd, 0, none⟩ = some (.pointer (some ⟨d, 0, none⟩)) from hk1.cell hxd (by rintro (e | e); exact hd1 e; exact cell_ne_map hxd HX.out.2.1 e))
       have e2 := (show w1.cell? ⟨xn, 0, none⟩ = some (.string nm) from hk1.cell hxn (by rintro (e | e); exact hd2 e; exact cell_ne_map hxn HX.out.2.1 e))
       have hN1 := (show w1.heap[Nb]? = some (.map es cN) from hp_kept HX.out.2.2.1 hk1 (by rintro (e | e); exact hp_ne HX.out.1 HX.out.2.2.1 (by simp) e.symm; exact hLN e.symm))
       have hv1 := (show w1.ownsRow B 121 3 vn n xs from ownsRow_kept HX.out.2.2.2 hk1 (by
          rintro k hk (e | e)
          · subst e; obtain ⟨cs, h⟩ := owns_block HX.out.2.2.2 k hk; exact hp_ne HX.out.1 h (by simp) rfl
          · subst e; obtain ⟨cs, h⟩ := owns_block HX.out.2.2.2 k hk; exact hp_ne HX.out.2.1 h (by simp) rfl))
       have HY := hid (And.intro hp' (And.intro hfile' (And.intro hD1 (And.intro hL1 (And.intro hk1 (And.intro hN1 hv1))))))
       clear hp hfile hp' hfile' hk0 hD1 hL1 hk1 hN1 hv1)
    | (go_at_call 78
       refine (pend_names B d ⟨#[]⟩ nm (made + 1) w1 room limit (.map (some L)) (made + 1) Nb F vn off st k1 rd k2 es _ cN _ n xs HY.out.2.2.1 HY.out.2.2.2.2.2.1 (Nat.le_trans hB HY.out.2.2.2.2.1.size) HY.out.2.2.2.2.2.2 hn (show (0 : Nat) ≤ 1000000 by omega) hs (fun wx hx => do_create nm (made + 1) Nb es cN wx hx H2.out H3.out hne)).mono ?_
       rintro e w2 ⟨rfl, vn', hD2, hN2, hv2, hk2⟩
       have HZ := hid (And.intro hD2 (And.intro hN2 (And.intro hv2 hk2)))
       clear hD2 hN2 hv2 hk2))
  all_goals go_wp2
  all_goals go_ret
  all_goals
    obtain ⟨hp, hfile, hD1, hL1, hk1, hN1, hv1⟩ := HY.out
    obtain ⟨hD2, hN2, hv2, hk2⟩ := HZ.out
    obtain ⟨hD0, hL0, hN0, hv0⟩ := HX.out
    have l1 := hp_lt hD0
    have l2 := hp_lt hN0
    have l3 := fun k h => (hv0.lt k h).2
    refine ⟨rfl, p, vs, vd, vf, vn', hp, hfile.low hk2 hp ?_, hD2, hp_kept hL1 hk2 ?_, hN2, hv2, ?_⟩
    · rintro k (e | e | e)
      · omega
      · omega
      · exact l3 k e
    · rintro (e | e | e)
      · exact hp_ne hD0 hL0 (by simp) e.symm
      · exact hLN e
      · obtain ⟨cs, h⟩ := owns_block hv0 L e
        exact hp_ne hL0 h (by simp) rfl
    · refine (hk1.mono (S' := fun k => k = d ∨ k = L ∨ k = Nb ∨ vn.ownBlock = some k) ?_).trans hk2 ?_
      · rintro i _ (e | e)
        · exact .inl e
        · exact .inr (.inl e)
      · rintro i _ (e | e | e)
        · exact .inl e
        · exact .inr (.inr (.inl e))
        · exact .inr (.inr (.inr e))

end Go.Proofs.YtlmompdfombgeaaGreat
