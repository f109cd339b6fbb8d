import Derived.Test.YtamajeagmkjjbaaTwo
namespace Go.Proofs.Ytamajeagmkjjbaa
open Go.RowKit

/-- The three rows that Data gave, above all that was there at w2. -/
structure St (w2 w : World) (ga gb gc : Nat) (xa xb xc : List Int) : Prop where
  a : Own w ga xa
  b : Own w gb xb
  c : Own w gc xc
  kp : Kept (fun k => w2.heap.size ≤ k) w2 w
  ord : w2.heap.size ≤ ga ∧ ga < gb ∧ gb < gc

section
variable {w2 w w' : World} {ga gb gc : Nat} {xa xb xc : List Int}

theorem St.kept (h : St w2 w ga gb gc xa xb xc) {S : Nat → Prop} (hk : Kept S w w') (h1 : ¬ S ga) (h2 : ¬ S gb) (h3 : ¬ S gc) (h4 : ∀ k, S k → w2.heap.size ≤ k) : St w2 w' ga gb gc xa xb xc :=
  ⟨h.a.kept hk h1, h.b.kept hk h2, h.c.kept hk h3, h.kp.trans hk (fun i _ hs => h4 i hs), h.ord⟩

theorem St.still (h : St w2 w ga gb gc xa xb xc) (hb : Below w.heap.size w w') : St w2 w' ga gb gc xa xb xc :=
  h.kept (Kept.ofBelow hb) (fun h => h) (fun h => h) (fun h => h) (fun _ h => h.elim)

theorem St.put (h : St w2 w ga gb gc xa xb xc) (j : Nat) (y z : Int) : St w2 ((w.setCell ⟨ga, j, none⟩ (.int .u8 y)).setCell ⟨gb, j, none⟩ (.int .u8 z)) ga gb gc (xa.set j y) (xb.set j z) xc := by
  obtain ⟨o1, o2, o3⟩ := h.ord
  have k1 : Kept (fun k => k = ga) w (w.setCell ⟨ga, j, none⟩ (.int .u8 y)) := (Kept.refl (fun k => k = ga) w).setCell (p := ⟨ga, j, none⟩) (fun _ => rfl) _
  have k2 : Kept (fun k => k = gb) (w.setCell ⟨ga, j, none⟩ (.int .u8 y)) ((w.setCell ⟨ga, j, none⟩ (.int .u8 y)).setCell ⟨gb, j, none⟩ (.int .u8 z)) := (Kept.refl (fun k => k = gb) _).setCell (p := ⟨gb, j, none⟩) (fun _ => rfl) _
  refine ⟨(h.a.set j y).kept k2 (by omega), (h.b.kept k1 (by omega)).set j z, (h.c.kept k1 (by omega)).kept k2 (by omega), (h.kp.trans k1 ?_).trans k2 ?_, h.ord⟩
  · intro i _ e; omega
  · intro i _ e; omega

theorem St.putc (h : St w2 w ga gb gc xa xb xc) (j : Nat) (y : Int) : St w2 (w.setCell ⟨gc, j, none⟩ (.int .u8 y)) ga gb gc xa xb (xc.set j y) := by
  obtain ⟨o1, o2, o3⟩ := h.ord
  have k1 : Kept (fun k => k = gc) w (w.setCell ⟨gc, j, none⟩ (.int .u8 y)) := (Kept.refl (fun k => k = gc) w).setCell (p := ⟨gc, j, none⟩) (fun _ => rfl) _
  refine ⟨h.a.kept k1 (by omega), h.b.kept k1 (by omega), h.c.set j y, h.kp.trans k1 ?_, h.ord⟩
  intro i _ e; omega

end

theorem Dd.lt {w : World} {H ga n : Nat} {xs0 : List Int} {j : Nat} {y : Int} {v : Value} (h : Dd w H ga n xs0 j y v) (hg : ga < H) (hH : H ≤ w.heap.size) : ∀ k, v.ownBlock = some k → k < w.heap.size := by
  intro k hk
  rcases h with ⟨_, rfl⟩ | h
  · injection hk with hk; dsimp only at hk; omega
  · exact (h.lt k hk).2

theorem Dd.kept {w w' : World} {H ga n : Nat} {xs0 : List Int} {j : Nat} {y : Int} {v : Value} {S : Nat → Prop} (h : Dd w H ga n xs0 j y v) (hk : Kept S w w') (hn : ∀ k, v.ownBlock = some k → ¬ S k) : Dd w' H ga n xs0 j y v := by
  rcases h with h | h
  · exact .inl h
  · exact .inr (ownsRow_kept h hk hn)

/-- The three rows that were gone on from. -/
structure D3 (w : World) (H ga gb gc n nc : Nat) (xa xb xc : List Int) (jd je jf : Nat) (d e f : Value) : Prop where
  dd : Dd w H ga n xa jd 4 d
  de : Dd w H gb n xb je 5 e
  df : Dd w H gc nc xc jf 6 f
  n1 : ∀ k, d.ownBlock = some k → e.ownBlock ≠ some k
  n2 : ∀ k, d.ownBlock = some k → f.ownBlock ≠ some k
  n3 : ∀ k, e.ownBlock = some k → f.ownBlock ≠ some k
  hH : H ≤ w.heap.size
  lt : ga < H ∧ gb < H ∧ gc < H

section
variable {w w' : World} {H ga gb gc n nc : Nat} {xa xb xc : List Int} {jd je jf : Nat} {d e f : Value}

theorem D3.still (h : D3 w H ga gb gc n nc xa xb xc jd je jf d e f) (hb : Below w.heap.size w w') : D3 w' H ga gb gc n nc xa xb xc jd je jf d e f :=
  have hk := Kept.ofBelow hb
  ⟨h.dd.kept hk (fun _ _ h => h), h.de.kept hk (fun _ _ h => h), h.df.kept hk (fun _ _ h => h), h.n1, h.n2, h.n3, Nat.le_trans h.hH hb.size, h.lt⟩

theorem D3.app_d (h : D3 w H ga gb gc n nc xa xb xc jd je jf d e f) {v : Value} (ho : w'.ownsRow H 5 1 v (n + (jd + 1)) (B8 (xa ++ List.replicate (jd + 1) 4))) (hk : Kept (fun k => H ≤ k ∧ d.ownBlock = some k) w w') (hv : v.ownBlock = d.ownBlock ∨ ∃ k, w.heap.size ≤ k ∧ v.ownBlock = some k) :
    D3 w' H ga gb gc n nc xa xb xc (jd + 1) je jf v e f := by
  have he := h.de.lt h.lt.2.1 h.hH
  have hf := h.df.lt h.lt.2.2 h.hH
  refine ⟨.inr ho, h.de.kept hk (fun k hk2 hs => h.n1 k hs.2 hk2), h.df.kept hk (fun k hk2 hs => h.n2 k hs.2 hk2), ?_, ?_, h.n3, Nat.le_trans h.hH hk.size, h.lt⟩
  · intro k hk2 e2
    rcases hv with hv | ⟨j, hj, hv⟩
    · exact h.n1 k (hv ▸ hk2) e2
    · rw [hv] at hk2; injection hk2 with hk2; have := he k e2; omega
  · intro k hk2 e2
    rcases hv with hv | ⟨j, hj, hv⟩
    · exact h.n2 k (hv ▸ hk2) e2
    · rw [hv] at hk2; injection hk2 with hk2; have := hf k e2; omega

theorem D3.app_e (h : D3 w H ga gb gc n nc xa xb xc jd je jf d e f) {v : Value} (ho : w'.ownsRow H 5 1 v (n + (je + 1)) (B8 (xb ++ List.replicate (je + 1) 5))) (hk : Kept (fun k => H ≤ k ∧ e.ownBlock = some k) w w') (hv : v.ownBlock = e.ownBlock ∨ ∃ k, w.heap.size ≤ k ∧ v.ownBlock = some k) :
    D3 w' H ga gb gc n nc xa xb xc jd (je + 1) jf d v f := by
  have hd := h.dd.lt h.lt.1 h.hH
  have hf := h.df.lt h.lt.2.2 h.hH
  refine ⟨h.dd.kept hk (fun k hk2 hs => h.n1 k hk2 hs.2), .inr ho, h.df.kept hk (fun k hk2 hs => h.n3 k hs.2 hk2), ?_, h.n2, ?_, Nat.le_trans h.hH hk.size, h.lt⟩
  · intro k hk2 e2
    rcases hv with hv | ⟨j, hj, hv⟩
    · exact h.n1 k hk2 (hv ▸ e2)
    · rw [hv] at e2; injection e2 with e2; have := hd k hk2; omega
  · intro k hk2 e2
    rcases hv with hv | ⟨j, hj, hv⟩
    · exact h.n3 k (hv ▸ hk2) e2
    · rw [hv] at hk2; injection hk2 with hk2; have := hf k e2; omega

theorem D3.app_f (h : D3 w H ga gb gc n nc xa xb xc jd je jf d e f) {v : Value} (ho : w'.ownsRow H 5 1 v (nc + (jf + 1)) (B8 (xc ++ List.replicate (jf + 1) 6))) (hk : Kept (fun k => H ≤ k ∧ f.ownBlock = some k) w w') (hv : v.ownBlock = f.ownBlock ∨ ∃ k, w.heap.size ≤ k ∧ v.ownBlock = some k) :
    D3 w' H ga gb gc n nc xa xb xc jd je (jf + 1) d e v := by
  have hd := h.dd.lt h.lt.1 h.hH
  have he := h.de.lt h.lt.2.1 h.hH
  refine ⟨h.dd.kept hk (fun k hk2 hs => h.n2 k hk2 hs.2), h.de.kept hk (fun k hk2 hs => h.n3 k hk2 hs.2), .inr ho, h.n1, ?_, ?_, Nat.le_trans h.hH hk.size, h.lt⟩
  · intro k hk2 e2
    rcases hv with hv | ⟨j, hj, hv⟩
    · exact h.n2 k hk2 (hv ▸ e2)
    · rw [hv] at e2; injection e2 with e2; have := hd k hk2; omega
  · intro k hk2 e2
    rcases hv with hv | ⟨j, hj, hv⟩
    · exact h.n3 k hk2 (hv ▸ e2)
    · rw [hv] at e2; injection e2 with e2; have := he k hk2; omega

end

theorem St.app {w2 w w' : World} {ga gb gc : Nat} {xa xb xc : List Int} (h : St w2 w ga gb gc xa xb xc) {H : Nat} {v : Value} (hk : Kept (fun k => H ≤ k ∧ v.ownBlock = some k) w w') (hl : ga < H ∧ gb < H ∧ gc < H) : St w2 w' ga gb gc xa xb xc := by
  have := h.ord
  exact h.kept hk (fun e => by omega) (fun e => by omega) (fun e => by omega) (fun k e => by omega)

/-- The row behind j appends, j above 0. -/
theorem Dd.row {w : World} {H ga n : Nat} {xs0 : List Int} {j : Nat} {y : Int} {v : Value} (h : Dd w H ga n xs0 j y v) (hj : 0 < j) : ∃ g c, v = .slice (some ⟨g, 0, none⟩) (n + j) c ∧ Brow w g (xs0 ++ List.replicate j y) := by
  rcases h with ⟨h0, _⟩ | h
  · omega
  · rcases h.2 with ⟨_, h2⟩ | ⟨g, cap, cur, rfl, _⟩
    · omega
    · obtain ⟨g', e, _, hb, _⟩ := brow_of_owns h (by omega)
      injection e with e
      injection e with e
      subst e
      exact ⟨_, _, rfl, hb⟩

theorem rep_at (n : Nat) (y : Int) (k : Nat) (h : k < n) : (List.replicate n y)[k]? = some y := by simp [h]
theorem reps_lo (n j : Nat) (x y : Int) (k : Nat) (h : k < n) : (List.replicate n x ++ List.replicate j y)[k]? = some x := by
  rw [List.getElem?_append_left (by simpa using h)]; simp [h]
theorem reps_hi (n j : Nat) (x y : Int) (k : Nat) (h1 : n ≤ k) (h2 : k < n + j) : (List.replicate n x ++ List.replicate j y)[k]? = some y := by
  rw [List.getElem?_append_right (by simpa using h1), List.length_replicate, List.getElem?_replicate, if_pos (by omega)]

theorem turned_at (k : Nat) (y : Int) (xs : List Int) (j : Nat) (h : j < xs.length) : ∃ x, (turned k y xs)[j]? = some x := by
  have : j < (turned k y xs).length := by simp [turned]; omega
  exact ⟨_, List.getElem?_eq_getElem this⟩

end Go.Proofs.Ytamajeagmkjjbaa
