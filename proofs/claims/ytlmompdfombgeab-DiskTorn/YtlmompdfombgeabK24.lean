import Derived.Test.YtlmompdfombgeabK23
namespace Go.Proofs.Ytlmompdfombgeab
open Go.RowKit Go.MapKept

theorem ts_start {w wr wr' : World} {d : Nat} {t : Wt} {base : List Int} {st : Int} {n : Nat} (hk : Dk w wr d t (oneD base [] st) n) {v : Value} (hv1 : wr.ownsRow w.heap.size 37 2 v base.length (cellsR (rowC base []))) {ao : Option Addr} {cp : Nat} (hown : wr'.ownsRow w.heap.size 35 1 (.slice ao (0 + 1) cp) (0 + 1) ([] ++ [v])) {o : Obj} (hg : (wr.alloc o).grownBy wr' (Value.slice none 0 0).ownBlock) :
    TS w wr' d t base [] st n (.slice ao 1 cp) [v] := by
  have hb : Kept (fun k => (Value.slice none 0 0).ownBlock = some k) wr wr' := ((Kept.refl _ wr).alloc o).grown hg (fun _ _ e => e)
  have hb2 : Below wr.heap.size wr wr' := hb.below (Nat.le_refl _) (fun k _ e => by cases e)
  refine ⟨hk.below hb2, ?_⟩
  exact (rws_nil wr w.heap.size).push (r := rowC base []) hv1 hown hg

theorem own_mono {w : World} {B B' : Nat} {e : TypeId} {m : Nat} {v : Value} {n : Nat} {xs : List Value} (h : w.ownsRow B e m v n xs) (hB : B' ≤ B) : w.ownsRow B' e m v n xs := by
  refine ⟨h.1, ?_⟩
  rcases h.2 with e | ⟨g, cap, cur, e1, e2, e3⟩
  · exact .inl e
  · exact .inr ⟨g, cap, cur, e1, by omega, e3⟩

theorem cut_row {w : World} {B : Nat} {v : Value} {base : List Int} {cs : List Chg} {k : Nat} (hk : k < (rowC base cs).1.length) (h : w.ownsRow B 37 2 v k ((cellsR (rowC base cs)).take (k * 2))) : w.ownsRow B 37 2 v (rowC base (cs ++ [.inr k])).1.length (cellsR (rowC base (cs ++ [.inr k]))) := by
  have e : rowC base (cs ++ [.inr k]) = ((rowC base cs).1.take k, (rowC base cs).2.take k) := rowC_snoc base cs (.inr k)
  rw [e, cellsR_take _ (rowC_len base cs) k (by omega)]
  simpa [Nat.min_eq_left (Nat.le_of_lt hk)] using h

theorem grow_row {w : World} {B : Nat} {v : Value} {base : List Int} {cs : List Chg} {ys : List Int} {m : Nat} (hm : m = (rowC base cs).1.length) (h : w.ownsRow B 37 2 v (m + ys.length) (cellsR (growR (rowC base cs) ys ys.length))) : w.ownsRow B 37 2 v (rowC base (cs ++ [.inl ys])).1.length (cellsR (rowC base (cs ++ [.inl ys]))) := by
  have e : rowC base (cs ++ [.inl ys]) = growR (rowC base cs) ys ys.length := by rw [rowC_snoc]; simp [doC, growR]
  rw [e]
  have e2 : (growR (rowC base cs) ys ys.length).1.length = m + ys.length := by simp [growR, hm]
  rw [e2]
  exact h

theorem growR_zero (r : List Int × List Bool) (ys : List Int) : cellsR (growR r ys 0) = cellsR r := by simp [growR]

/-- The cells of the change that is being done. -/
theorem chg_cells {W : World} {xb : Nat} {cut : Bool} {size : Int} {dv : Value} (h : W.heap[xb]? = some (.cells #[.bool cut, .int .i64 size, dv] 27 (0, 0))) {W' : World} (hb : Below W.heap.size W W') : W'.cell? ⟨xb, 0, none⟩ = some (.bool cut) ∧ W'.cell? ⟨xb, 1, none⟩ = some (.int .i64 size) ∧ W'.cell? ⟨xb, 2, none⟩ = some dv := by
  have h2 : W'.heap[xb]? = some (.cells #[.bool cut, .int .i64 size, dv] 27 (0, 0)) := (hb.block xb (hp_lt h)).trans h
  exact ⟨by rw [cell_of_row W' _ _ _ _ _ h2]; rfl, by rw [cell_of_row W' _ _ _ _ _ h2]; rfl, by rw [cell_of_row W' _ _ _ _ _ h2]; rfl⟩

theorem chg_kept {W W' : World} {d xb : Nat} {t t' : Wt} {D D' : Dq} {cut : Bool} {size : Int} {dv : Value} (h : W.heap[xb]? = some (.cells #[.bool cut, .int .i64 size, dv] 27 (0, 0))) (hd : DkT W d t D) (hg : Goes d W t D W' t' D') : W'.heap[xb]? = some (.cells #[.bool cut, .int .i64 size, dv] 27 (0, 0)) :=
  (hg.kp.block xb (hp_lt h) (hd.notRow (by decide) h)).trans h


/-- An owned row of one element: its cells. -/
theorem own_one {w : World} {B : Nat} {e : TypeId} {m : Nat} {v : Value} {cs : List Value} (hm : 0 < m) (h : w.ownsRow B e m v 1 cs) (h1 : ∀ u ∈ cs, u.oneCell' = true) : ∃ b c, v = .slice (some ⟨b, 0, none⟩) 1 c ∧ B ≤ b ∧ b < w.heap.size ∧ ∀ j u, cs[j]? = some u → w.cell? ⟨b, j, none⟩ = some u := by
  have hrf := rf_of_owns h h1
  obtain ⟨b, off, cap, e0, _, _, q3⟩ := hrf.lits (by omega) hm
  have hoff : off = 0 := by
    rcases h.2 with ⟨e1, _⟩ | ⟨g, cap2, cur, e1, _⟩
    · rw [e1] at e0; cases e0
    · rw [e1] at e0
      injection e0 with e0 _ _
      injection e0 with e0
      injection e0 with _ e0
      exact e0.symm
  subst hoff
  have hl := h.lt b (by rw [e0]; rfl)
  exact ⟨b, cap, e0, hl.1, hl.2, fun j u hu => by simpa using q3 j u hu⟩

theorem fb_one {w : World} {B : Nat} {v : Value} {nm : ByteArray} {bs : List Int} (h : FbAt w B v [(nm, bs)]) : ∃ b c Y, v = .slice (some ⟨b, 0, none⟩) 1 c ∧ w.cell? ⟨b, 1, none⟩ = some (.slice (some ⟨Y, 0, none⟩) bs.length bs.length) ∧ Own w Y bs ∧ B ≤ b ∧ B ≤ Y := by
  obtain ⟨ys, h1, h2, h3⟩ := h
  match ys, h1 with
  | [Y], _ =>
    obtain ⟨b, c, e, hb, _, hc⟩ := own_one (by omega) h2 (by intro u hu; simp at hu; rcases hu with rfl | rfl <;> rfl)
    exact ⟨b, c, Y, e, hc 1 _ rfl, (h3 0 _ Y rfl rfl).1, hb, (h3 0 _ Y rfl rfl).2⟩

theorem own_cell {w : World} {Y : Nat} {bs : List Int} (h : Own w Y bs) {i : Nat} {x : Int} (hx : bs[i]? = some x) : w.cell? ⟨Y, i, none⟩ = some (.int .u8 x) := by
  unfold Own at h
  rw [cell_of_row w _ _ _ _ _ h]
  simp [hx]

theorem t_pend {w wr : World} {d : Nat} {t : Wt} {base : List Int} {cs : List Chg} {st : Int} {n : Nat} (h : Dk w wr d t (oneD base cs st) n) (hn : n ≤ 1000) :
    Calls Try.prog 12 #[.pointer (some ⟨d, 0, none⟩)] wr fun x w' => ∃ g c, x = .returned (.tuple #[.int .i64 0, .slice (some ⟨g, 0, none⟩) 1 c]) ∧ wr.heap.size ≤ g ∧ w'.cell? ⟨g, 0, none⟩ = some (.int .i64 cs.length) ∧ Below wr.heap.size wr w' := by
  refine (pending_dk h.dk h.wd (by omega)).mono fun x w' ⟨v, e, hown, hb⟩ => ?_
  have hown' : w'.ownsRow wr.heap.size 3 1 v 1 [.int .i64 (cs.length : Int)] := hown
  obtain ⟨b, c, e2, hB, _, hc⟩ := own_one (by omega) hown' (by intro u hu; simp at hu; subst hu; rfl)
  subst e2
  exact ⟨b, c, e, hB, hc 0 _ rfl, hb⟩

theorem t_crash {w wr : World} {d : Nat} {t : Wt} {base : List Int} {cs : List Chg} {st : Int} {n : Nat} (h : Dk w wr d t (oneD base cs st) n) (hn : n ≤ 1000) {a3 : Option Addr} {c3 : Nat} {lost : List Int} {done : Int} (hL : Ln w (.slice a3 lost.length c3) lost) (hd : I64 done) (hl : ∀ x ∈ lost, I64 x) (hll : lost.length ≤ 300) :
    Calls Try.prog 13 #[.pointer (some ⟨d, 0, none⟩), .agg #[.int .i64 0, .slice (some ⟨wr.heap.size, 0, none⟩) 1 1]] (wr.alloc (.cells #[.int .i64 done, .slice a3 lost.length c3] 45)) fun x w' => ∃ b c Y t',
      x = .returned (.slice (some ⟨b, 0, none⟩) 1 c) ∧ w'.cell? ⟨b, 1, none⟩ = some (.slice (some ⟨Y, 0, none⟩) (wholeF done ⟨1, base, cs⟩).1.length (wholeF done ⟨1, base, cs⟩).1.length) ∧ Own w' Y (wholeF done ⟨1, base, cs⟩).1 ∧ wr.heap.size ≤ b ∧ wr.heap.size ≤ Y ∧
      Dk w w' d t' (oneD (loseAll (wholeF done ⟨1, base, cs⟩).2 lost (wholeF done ⟨1, base, cs⟩).1) [] 0) n ∧ Kept (Dft d t (oneD base cs st)) wr w' := by
  have hba := bel_al wr (.cells #[.int .i64 done, .slice a3 lost.length c3] 45)
  have hk := h.below hba
  have hrow : (wr.alloc (.cells #[.int .i64 done, .slice a3 lost.length c3] 45)).ownsRow 0 45 2 (.slice (some ⟨wr.heap.size, 0, none⟩) 1 1) 1 [.int .i64 done, .slice a3 lost.length c3] := ⟨by simp, .inr ⟨wr.heap.size, 1, _, rfl, Nat.zero_le _, hp_new wr _, Nat.le_refl _, by decide, by simp, by simp⟩⟩
  have hpk : Pks (wr.alloc (.cells #[.int .i64 done, .slice a3 lost.length c3] 45)) (.slice (some ⟨wr.heap.size, 0, none⟩) 1 1) [⟨done, .slice a3 lost.length c3, lost⟩] :=
    ⟨rf_of_owns hrow (by intro u hu; rcases List.mem_cons.1 hu with e | e; (rw [e]; rfl); (rw [List.mem_singleton.1 e]; rfl)), fun p hp => by
      rw [List.mem_singleton.1 hp]
      exact ⟨hd, (hL.below h.hb).below hba, hl, rfl⟩⟩
  have hsep : ∀ k, pkBlk (.slice (some ⟨wr.heap.size, 0, none⟩) 1 1) [⟨done, .slice a3 lost.length c3, lost⟩] k → ¬ Dft d t (oneD base cs st) k := by
    rintro k (⟨_, e⟩ | ⟨p, hp, h0, e⟩) hD
    · simp [Value.ownBlock] at e
      have := h.dk.lt k hD
      omega
    · rw [List.mem_singleton.1 hp] at h0 e
      dsimp only at h0 e
      have hge := h.ge k hD
      obtain ⟨b, off, cap, e2, _, _, q3⟩ := Rf.lits hL h0 (by omega)
      injection e2 with e2 _ _
      subst e2
      simp [Value.ownBlock] at e
      subst e
      obtain ⟨x, hx⟩ : ∃ x, lost[0]? = some x := ⟨_, List.getElem?_eq_getElem h0⟩
      have := World.block_lt_of_cell? _ _ (q3 0 (.int .i64 x) (by
        have h5 := flat_get (fun x : Int => [Value.int .i64 x]) 1 (fun _ => rfl) lost 0 0 (by omega)
        simpa [hx] using h5))
      simp at this
      omega
  have hc := crash_dk hk.dk hk.wd (by omega) 0 (by unfold I64; omega) _ _ hpk (by simp) (by intro p hp; rw [List.mem_singleton.1 hp]; dsimp only; omega) hsep
  have hw := hk.wd.crashP 0 [(done, lost)]
  rw [show pksOf [⟨done, .slice a3 lost.length c3, lost⟩] = [(done, lost)] from rfl, crash_torn] at hc
  rw [crash_torn] at hw
  refine hc.mono fun x w' ⟨v, t', e, hF, hg⟩ => ?_
  obtain ⟨b, c, Y, e2, q1, q2, q3, q4⟩ := fb_one hF
  subst e2
  simp at q3 q4
  exact ⟨b, c, Y, t', e, q1, q2, by omega, by omega, hk.goes hg hw, ((Kept.ofBelow hba).mono (fun _ _ e => e.elim)).trans hg.kp (fun _ _ e => e)⟩

theorem t_read {w wr : World} {d : Nat} {t : Wt} {bs : List Int} {st : Int} {n : Nat} (h : Dk w wr d t (oneD bs [] st) n) (hn : n ≤ 1000) :
    Calls Try.prog 14 #[.pointer (some ⟨d, 0, none⟩), .string nmF] wr fun x w' => ∃ bz cz, x = .returned (.tuple #[.slice bz bs.length cz, .int .i64 0]) ∧ (∀ i u, bs[i]? = some u → ∃ Z, bz = some ⟨Z, 0, none⟩ ∧ w'.cell? ⟨Z, i, none⟩ = some (.int .u8 u)) ∧ (bs.length : Int) ≤ cz ∧ Kept (fun k => k = d) wr w' := by
  obtain ⟨e1, e2⟩ := read_torn bs st
  refine (read_dk h.dk h.wd (by omega) nmF nmF_size).mono fun x w' ⟨v, e, hN, _, hk⟩ => ?_
  rw [e1] at hN
  rw [e2] at e
  rcases hN with ⟨rfl, rfl⟩ | ⟨Y, rfl, hO, _⟩
  · exact ⟨none, 0, e, fun i u hu => by simp at hu, by simp, hk⟩
  · exact ⟨some ⟨Y, 0, none⟩, bs.length, e, fun i u hu => ⟨Y, rfl, own_cell hO hu⟩, by omega, hk⟩

theorem ln_cells {w w' : World} {a3 : Option Addr} {c3 : Nat} {lost : List Int} (h : Ln w (.slice a3 lost.length c3) lost) (hb : Below w.heap.size w w') : ∀ k v, lost[k]? = some v → ∃ bq oq, a3 = some ⟨bq, oq, none⟩ ∧ w'.cell? ⟨bq, oq + k, none⟩ = some (.int .i64 v) := by
  intro k v hk
  have hl : k < lost.length := (List.getElem?_eq_some_iff.1 hk).1
  obtain ⟨b, off, cap, e, _, _, q3⟩ := Rf.lits (h.below hb) (by omega) (by omega)
  injection e with e _ _
  refine ⟨b, off, e, q3 k _ ?_⟩
  have h5 := flat_get (fun x : Int => [Value.int .i64 x]) 1 (fun _ => rfl) lost k 0 (by omega)
  simpa [hk] using h5

theorem lost_snoc {m i k : Nat} {lost : List Int} {v : Int} (hv : lost[k]? = some v) : lostAt m (lost.take (k + 1)) i ↔ lostAt m (lost.take k) i ∨ (v % (secs m : Int)).toNat = i / 16 := by
  unfold lostAt
  rw [List.take_add_one, hv]
  constructor
  · rintro ⟨u, hu, e⟩
    rcases List.mem_append.1 hu with h | h
    · exact .inl ⟨u, h, e⟩
    · simp at h; subst h; exact .inr e
  · rintro (⟨u, hu, e⟩ | e)
    · exact ⟨u, List.mem_append_left _ hu, e⟩
    · exact ⟨v, List.mem_append_right _ (by simp), e⟩

end Go.Proofs.Ytlmompdfombgeab
