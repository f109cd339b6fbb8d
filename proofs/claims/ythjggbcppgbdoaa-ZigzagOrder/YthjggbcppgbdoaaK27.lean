import Derived.Test.YthjggbcppgbdoaaK26
namespace Go.Proofs.Ythjggbcppgbdoaa
open Go.RowKit

/-- Two stores of which the same is read; the second was never marked. -/
structure Us (w : World) (pa pb : Nat) (A B : List Pl) (m : Bool) (N : Nat) (F G : Nat → Prop) (W : World) : Prop where
  a : ZV W pa A m F
  b : ZV W pb B false G
  fa : ∀ j, F j → j < W.heap.size
  fb : ∀ j, G j → j < W.heap.size
  dj : ∀ j, F j → ¬ G j
  oa : ∀ j, F j → w.heap.size ≤ j
  ob : ∀ j, G j → w.heap.size ≤ j
  rq : rd A = rd B
  na : Bd N A
  nb : Bd N B
  be : Below w.heap.size w W

theorem Us.below {w : World} {pa pb : Nat} {A B : List Pl} {m : Bool} {N : Nat} {F G : Nat → Prop} {W W' : World} (h : Us w pa pb A B m N F G W) (hb : Below W.heap.size W W') : Us w pa pb A B m N F G W' :=
  ⟨h.a.below hb, h.b.below hb, fun j hj => Nat.lt_of_lt_of_le (h.fa j hj) hb.size, fun j hj => Nat.lt_of_lt_of_le (h.fb j hj) hb.size, h.dj, h.oa, h.ob, h.rq, h.na, h.nb, below_on h.be hb⟩

theorem Us.keptF {w : World} {pa pb : Nat} {A A' B : List Pl} {m m' : Bool} {N : Nat} {F G : Nat → Prop} {W W' : World} (h : Us w pa pb A B m N F G W) (hk : Kept F W W') (ha : ZV W' pa A' m' F) (hr : rd A' = rd A) (hn : Bd N A') : Us w pa pb A' B m' N F G W' :=
  ⟨ha, h.b.kept hk (fun j hj e => h.dj j e hj), fun j hj => Nat.lt_of_lt_of_le (h.fa j hj) hk.size, fun j hj => Nat.lt_of_lt_of_le (h.fb j hj) hk.size, h.dj, h.oa, h.ob, hr.trans h.rq, hn, h.nb, h.be.trans (hk.below h.be.size (fun j hj e => by have := h.oa j e; omega))⟩

theorem us_mark {w : World} {pa pb : Nat} {A B : List Pl} {m : Bool} {N : Nat} {F G : Nat → Prop} {W : World} (h : Us w pa pb A B m N F G W) :
    Calls Try.prog 26 #[.pointer (some ⟨pa, 0, none⟩)] W fun y w' => ∃ e, y = .returned (.int .i64 e) ∧ (∃ A' m', Us w pa pb A' B m' N F G w') ∧ Kept F W w' := by
  cases m
  · refine (vmark pa A F W h.a).mono ?_
    rintro y w' ⟨rfl, hz, hk⟩
    refine ⟨_, rfl, ⟨_, _, h.keptF hk hz (rd_mark A) ⟨by simpa using h.na.n, fun e he => ?_⟩⟩, hk⟩
    obtain ⟨e', he', rfl⟩ := List.mem_map.1 he
    exact h.na.k e' he'
  · refine (vbusy pa A F W h.a).mono ?_
    rintro y w' ⟨rfl, rfl⟩
    exact ⟨_, rfl, ⟨_, _, h⟩, Kept.refl _ _⟩

theorem us_done {w : World} {pa pb : Nat} {A B : List Pl} {m : Bool} {N : Nat} {F G : Nat → Prop} {W : World} (h : Us w pa pb A B m N F G W) (hN : N ≤ 500000) :
    Calls Try.prog 27 #[.pointer (some ⟨pa, 0, none⟩)] W fun y w' => ∃ e, y = .returned (.int .i64 e) ∧ (∃ A' m', Us w pa pb A' B m' N F G w') ∧ Kept F W w' := by
  cases m
  · refine (vidle pa A F W h.a).mono ?_
    rintro y w' ⟨rfl, rfl⟩
    exact ⟨_, rfl, ⟨_, _, h⟩, Kept.refl _ _⟩
  · refine (vdone pa A F W h.a (Nat.le_trans h.na.n hN)).mono ?_
    rintro y w' ⟨rfl, hz, hk⟩
    exact ⟨_, rfl, ⟨_, _, h.keptF hk hz (rd_keep A) ⟨Nat.le_trans (List.length_filter_le _ _) h.na.n, fun e he => h.na.k e (List.mem_filter.1 he).1⟩⟩, hk⟩

theorem wr_bd {N : Nat} {l : List Pl} {x : Sp} {m : Bool} (h : Bd N l) (hk : x.key.size ≤ 50000) : Bd (N + 1) (wrL x m l) := by
  unfold wrL
  split
  · exact (del_bd h hk).mono (by omega)
  split
  · exact put_bd h hk
  · exact h.mono (by omega)

/-- A write makes of what is read the same, marked or not. -/
theorem wr_rd {A B : List Pl} {x : Sp} {m n : Bool} (ha : Srt A) (hb : Srt B) (h : rd A = rd B) : rd (wrL x m A) = rd (wrL x n B) := by
  unfold wrL
  split
  · rw [rd_del ha, rd_del hb, h]
  split
  · rw [rd_put ha, rd_put hb, h]
  · exact h

/-- Behind the first store's write. -/
structure Um (w : World) (pa pb : Nat) (x : Sp) (A B : List Pl) (m : Bool) (N : Nat) (F G : Nat → Prop) (W : World) : Prop where
  a : ZV W pa (wrL x m A) m F
  b : ZV W pb B false G
  sa : Srt A
  fa : ∀ j, F j → j < W.heap.size
  fb : ∀ j, G j → j < W.heap.size
  dj : ∀ j, F j → ¬ G j
  oa : ∀ j, F j → w.heap.size ≤ j
  ob : ∀ j, G j → w.heap.size ≤ j
  rq : rd A = rd B
  na : Bd N A
  nb : Bd N B
  be : Below w.heap.size w W

theorem us_wa {w : World} {pa pb : Nat} {A B : List Pl} {m : Bool} {N : Nat} {F G : Nat → Prop} {W : World} {x : Sp} (h : Us w pa pb A B m N F G W) (hN : N ≤ 500000) (hk : x.key.size ≤ 50000) :
    Calls Try.prog 28 #[.pointer (some ⟨pa, 0, none⟩), x.agg] W fun y w' => y = .returned (.tuple #[]) ∧ (∃ F', Um w pa pb x A B m N F' G w') ∧ Kept F W w' := by
  refine (write_any x pa A m F W h.a h.fa (Nat.le_trans h.na.n hN) (by omega)).mono ?_
  rintro y w' ⟨rfl, F', q1, q2, q3, q4⟩
  refine ⟨rfl, ⟨F', ⟨q1, h.b.kept q4 (fun j hj e => h.dj j e hj), h.a.sorted, q3, fun j hj => Nat.lt_of_lt_of_le (h.fb j hj) q4.size, fun j hj hg => ?_, fun j hj => ?_, h.ob, h.rq, h.na, h.nb, h.be.trans (q4.below h.be.size (fun j hj e => by have := h.oa j e; omega))⟩⟩, q4⟩
  · rcases q2 j hj with e | e
    · exact h.dj j e hg
    · have := h.fb j hg
      omega
  · rcases q2 j hj with e | e
    · exact h.oa j e
    · have := h.be.size
      omega

theorem us_wb {w : World} {pa pb : Nat} {A B : List Pl} {m : Bool} {N : Nat} {F G : Nat → Prop} {W : World} {x : Sp} (h : Um w pa pb x A B m N F G W) (hN : N ≤ 500000) (hk : x.key.size ≤ 50000) :
    Calls Try.prog 28 #[.pointer (some ⟨pb, 0, none⟩), x.agg] W fun y w' => y = .returned (.tuple #[]) ∧ (∃ G', Us w pa pb (wrL x m A) (wrL x false B) m (N + 1) F G' w') ∧ Kept G W w' := by
  refine (write_any x pb B false G W h.b h.fb (Nat.le_trans h.nb.n hN) (by omega)).mono ?_
  rintro y w' ⟨rfl, G', q1, q2, q3, q4⟩
  refine ⟨rfl, ⟨G', ⟨h.a.kept q4 (fun j hj e => h.dj j hj e), q1, fun j hj => Nat.lt_of_lt_of_le (h.fa j hj) q4.size, q3, fun j hj hg => ?_, h.oa, fun j hj => ?_, wr_rd h.sa h.b.sorted h.rq, wr_bd h.na hk, wr_bd h.nb hk, h.be.trans (q4.below h.be.size (fun j hj e => by have := h.ob j e; omega))⟩⟩, q4⟩
  · rcases q2 j hg with e | e
    · exact h.dj j hj e
    · have := h.fa j hj
      omega
  · rcases q2 j hj with e | e
    · exact h.ob j e
    · have := h.be.size
      omega

/-- Both answer alike. -/
theorem us_same {w : World} {pa pb : Nat} {A B : List Pl} {m : Bool} {N : Nat} {F G : Nat → Prop} {W : World} (h : Us w pa pb A B m N F G W) (key frm to : ByteArray) :
    rgetV key A = rgetV key B ∧ kx false (rl false frm to A) = kx false (rl false frm to B) ∧ nxP key A = nxP key B ∧ (A.filter keepP).length = (B.filter keepP).length := by
  refine ⟨?_, ?_, ?_, ?_⟩
  · rw [get_rd h.a.sorted, get_rd h.b.sorted, h.rq]
  · rw [range_rd, range_rd, h.rq]
  · rw [next_rd, next_rd, h.rq]
  · rw [len_rd, len_rd, h.rq]

theorem us_new {w W : World} {pa pb : Nat} (h1 : ZV W pa [] false (fun j => j = pa)) (h2 : ZV W pb [] false (fun j => j = pb)) (l1 : pa < W.heap.size) (l2 : pb < W.heap.size) (d : pa ≠ pb) (n1 : w.heap.size ≤ pa) (n2 : w.heap.size ≤ pb) (hb : Below w.heap.size w W) : Us w pa pb [] [] false 0 (fun j => j = pa) (fun j => j = pb) W :=
  ⟨h1, h2, fun j hj => by subst hj; exact l1, fun j hj => by subst hj; exact l2, fun j hj e => d (hj.symm.trans e), fun j hj => by subst hj; exact n1, fun j hj => by subst hj; exact n2, rfl, ⟨by simp, fun e he => (by cases he)⟩, ⟨by simp, fun e he => (by cases he)⟩, hb⟩

end Go.Proofs.Ythjggbcppgbdoaa
