import Derived.Test.YtdnlfacfleemeaaK24
import Derived.Test.YtdnlfacfleemeaaK18
import Derived.Test.YtdnlfacfleemeaaK19
namespace Go.Proofs.Ytdnlfacfleemeaa.O
open Go.RowKit Go.Lib

theorem txn_any (p : Nat) (g : Option Nat) (bs : List Int) (a : Nat) (w : World) (h : Rd w p g bs a 0) (hg : ∀ k, g = some k → k < w.heap.size) :
    Calls Try.prog 36 #[sv p bs.length] w (TXP p g bs w (tkTx bs a)) := by
  unfold tkTx
  by_cases hE : (takeZ 0 1 bs a 0).2.2 = 0
  · rw [if_pos hE]
    by_cases h1 : (takeZ 0 1 bs a 0).1.1 = 1
    · rw [if_pos h1]
      exact txn_def p g bs a w h hg hE h1
    · rw [if_neg h1]
      by_cases h2 : (takeZ 0 1 bs a 0).1.1 = 2
      · rw [if_pos h2]
        exact txn_call p g bs a w h hg hE h2
      · rw [if_neg h2]
        exact txn_none p g bs a w h hE h1 h2
  · rw [if_neg hE]
    exact txn_err p g bs a w h hE

/-- An address of a list of n in one block of its own, between two places. -/
def Lk (W : World) (e : TypeId) (l h : Nat) (ao : Option Addr) (n : Nat) : Prop := n ≠ 0 → ∃ b cs, ao = some ⟨b, 0, none⟩ ∧ l ≤ b ∧ b < h ∧ W.heap[b]? = some (.cells cs e (0, 0))

/-- What a transaction at its place holds: its two lists, each in a block of its own. -/
structure Slt (W : World) (tb k : Nat) (t : Txd) (a1 a2 : Option Addr) (l h : Nat) : Prop where
  c3 : W.cell? ⟨tb, k * 6 + 3, none⟩ = some (.slice a1 t.xs.length t.xs.length)
  c5 : W.cell? ⟨tb, k * 6 + 5, none⟩ = some (.slice a2 t.vs.length t.vs.length)
  k1 : Lk W 52 l h a1 t.xs.length
  k2 : Lk W 50 l h a2 t.vs.length

/-- All of them, one behind the other. -/
def Ss (T : Nat) (W : World) (tb : Nat) (ts : List Txd) : Prop := ∃ (A1 A2 : Nat → Option Addr) (lo : Nat → Nat), (∀ k, k ≤ ts.length → tb < lo k ∧ lo k ≤ T) ∧ (∀ k, k < ts.length → lo k ≤ lo (k + 1)) ∧ ∀ (k : Nat) (t : Txd), ts[k]? = some t → Slt W tb k t (A1 k) (A2 k) (lo k) (lo (k + 1))

theorem Lk.keep {W W' : World} {e : TypeId} {l h : Nat} {ao : Option Addr} {n : Nat} (hl : Lk W e l h ao n) {B : Nat} (hs : ∀ k, B ≤ k → k < W.heap.size → W'.heap[k]? = W.heap[k]?) (hB : B ≤ l) : Lk W' e l h ao n := fun hn => by
  obtain ⟨b, cs, h1, h2, h3, h4⟩ := hl hn
  exact ⟨b, cs, h1, h2, h3, (hs b (by omega) (lt_of h4)).trans h4⟩

theorem Slt.keep {W W' : World} {tb k : Nat} {t : Txd} {a1 a2 : Option Addr} {l h : Nat} (s : Slt W tb k t a1 a2 l h) (hb : W'.heap[tb]? = W.heap[tb]?) (hs : ∀ k, tb < k → k < W.heap.size → W'.heap[k]? = W.heap[k]?) (hl : tb < l) : Slt W' tb k t a1 a2 l h :=
  ⟨(World.cell?_of_block (a := ⟨tb, _, none⟩) hb).trans s.c3, (World.cell?_of_block (a := ⟨tb, _, none⟩) hb).trans s.c5, s.k1.keep (B := tb + 1) (fun k h1 h2 => hs k (by omega) h2) (by omega), s.k2.keep (B := tb + 1) (fun k h1 h2 => hs k (by omega) h2) (by omega)⟩

theorem Ss.keep {T : Nat} {W W' : World} {tb : Nat} {ts : List Txd} (h : Ss T W tb ts) (hs : ∀ k, tb ≤ k → k < W.heap.size → W'.heap[k]? = W.heap[k]?) (htb : tb < W.heap.size) : Ss T W' tb ts := by
  obtain ⟨A1, A2, lo, h1, h2, h3⟩ := h
  refine ⟨A1, A2, lo, h1, h2, fun k t ht => (h3 k t ht).keep (hs tb (Nat.le_refl _) htb) (fun k h1 h2 => hs k (by omega) h2) (h1 k (by have := (List.getElem?_eq_some_iff.1 ht).1; omega)).1⟩

theorem Ss.up {T T' : Nat} {W : World} {tb : Nat} {ts : List Txd} (h : Ss T W tb ts) (hT : T ≤ T') : Ss T' W tb ts := by
  obtain ⟨A1, A2, lo, h1, h2, h3⟩ := h
  exact ⟨A1, A2, lo, fun k hk => ⟨(h1 k hk).1, Nat.le_trans (h1 k hk).2 hT⟩, h2, h3⟩

/-- A batch's list: its own block, and in it lists of their own. -/
def Str (B : Nat) (W : World) (S : Value) (ts : List Txd) : Prop := ∃ tb, S = .slice (some ⟨tb, 0, none⟩) ts.length ts.length ∧ B ≤ tb ∧ (∃ cs, W.heap[tb]? = some (.cells cs 30 (0, 0))) ∧ Ss W.heap.size W tb ts

theorem Str.same {B : Nat} {W W' : World} {S : Value} {ts : List Txd} (h : Str B W S ts) (hs : Same B W W') (hz : W.heap.size ≤ W'.heap.size) : Str B W' S ts := by
  obtain ⟨tb, h1, h2, ⟨cs, h3⟩, h4⟩ := h
  exact ⟨tb, h1, h2, ⟨cs, (hs tb h2 (lt_of h3)).trans h3⟩, (h4.keep (fun k hk hl => hs k (by omega) hl) (lt_of h3)).up hz⟩
theorem Str.mono {B B' : Nat} {W : World} {S : Value} {ts : List Txd} (h : Str B W S ts) (hB : B' ≤ B) : Str B' W S ts := by
  obtain ⟨tb, h1, h2, h3, h4⟩ := h
  exact ⟨tb, h1, by omega, h3, h4⟩
theorem Str.below {B : Nat} {W W' : World} {S : Value} {ts : List Txd} (h : Str B W S ts) (hb : Below W.heap.size W W') : Str B W' S ts := h.same (Same.below hb) hb.size

/-- What take leaves. -/
def TKB (w : World) (r : Except Int (Int × List Txd)) (e : Ending) (w' : World) : Prop :=
  Below w.heap.size w w' ∧ match r with
  | .ok (f, ts) => ∃ S, e = .returned (.agg #[.int .i64 f, S]) ∧ TsAt w.heap.size w' S ts ∧ Str w.heap.size w' S ts
  | .error E => e = brefu E

/-- With the list. -/
structure Tb (w W : World) (p : Nat) (bs : List Int) (a s q tb N : Nat) (f : Int) (ys : List Txd) : Prop where
  tq : Tq w W p bs a s q (bo f (.slice (some ⟨tb, 0, none⟩) N N))
  bk : ∃ cs, W.heap[tb]? = some (.cells cs 30 (0, 0))
  c1 : ∀ (j : Nat) (t : Txd), ys[j]? = some t → TxAt (tb + 1) W tb (j * 6) t
  c2 : ∀ j, ys.length ≤ j → j < N → TxC W tb (j * 6) zTx (.slice none 0 0) (.slice none 0 0)
  lt : q < tb
  st : Ss W.heap.size W tb ys

theorem Tb.read {w W W' : World} {p : Nat} {bs : List Int} {a a2 s q tb N : Nat} {f : Int} {ys : List Txd} (h : Tb w W p bs a s q tb N f ys) (hk : Kept (fun k => k = p) W W') (hr : Rd W' p (some (w.heap.size + 1)) bs a2 0) : Tb w W' p bs a2 s q tb N f ys := by
  obtain ⟨cs, hc⟩ := h.bk
  have h1 := h.tq.ta.ls
  have h2 := h.tq.lq
  have h3 := h.lt
  have hs := hk.block _ (lt_of hc) (by omega)
  exact ⟨h.tq.read hk hr, ⟨cs, hs.trans hc⟩, fun j v hv => (h.c1 j v hv).both (Same.kept hk (fun k _ _ => by omega)) hs, fun j h1 h2 => (h.c2 j h1 h2).same hs, h.lt, (h.st.keep (fun k h5 h6 => hk.block k h6 (by omega)) (lt_of hc)).up hk.size⟩

theorem Tb.below {w W W' : World} {p : Nat} {bs : List Int} {a s q tb N : Nat} {f : Int} {ys : List Txd} (h : Tb w W p bs a s q tb N f ys) (hb : Below W.heap.size W W') : Tb w W' p bs a s q tb N f ys := by
  obtain ⟨cs, hc⟩ := h.bk
  have hs := hb.block _ (lt_of hc)
  exact ⟨h.tq.below hb, ⟨cs, hs.trans hc⟩, fun j v hv => (h.c1 j v hv).both (Same.below hb) hs, fun j h1 h2 => (h.c2 j h1 h2).same hs, h.lt, (h.st.keep (fun k _ h6 => hb.block k h6) (lt_of hc)).up hb.size⟩

theorem ss_set {W : World} {tb L : Nat} {ys : List Txd} {t u : Txd} {S1 S2 T1 T2 : Value} (h : Ss L W tb ys) (hL : tb < L ∧ L ≤ W.heap.size) (hk : Kept (fun k => k = tb) W (put6o W tb (ys.length * 6) (.int .i64 t.k) (.string t.pn) (.int .i64 t.pa) S1 (.string t.nm) S2)) (hc : TxC W tb (ys.length * 6) u T1 T2)
    (o1 : ∃ ao, S1 = .slice ao t.xs.length t.xs.length ∧ Lk W 52 L W.heap.size ao t.xs.length) (o2 : ∃ ao, S2 = .slice ao t.vs.length t.vs.length ∧ Lk W 50 L W.heap.size ao t.vs.length) :
    Ss (put6o W tb (ys.length * 6) (.int .i64 t.k) (.string t.pn) (.int .i64 t.pa) S1 (.string t.nm) S2).heap.size (put6o W tb (ys.length * 6) (.int .i64 t.k) (.string t.pn) (.int .i64 t.pa) S1 (.string t.nm) S2) tb (ys ++ [t]) := by
  have hn := put6_at hc t S1 S2
  have ho : ∀ o', o' < ys.length * 6 ∨ ys.length * 6 + 6 ≤ o' → (put6o W tb (ys.length * 6) (.int .i64 t.k) (.string t.pn) (.int .i64 t.pa) S1 (.string t.nm) S2).cell? ⟨tb, o', none⟩ = W.cell? ⟨tb, o', none⟩ := fun o' h => put6_off _ _ _ _ _ _ h
  have hsz := hk.size
  generalize put6o W tb (ys.length * 6) (.int .i64 t.k) (.string t.pn) (.int .i64 t.pa) S1 (.string t.nm) S2 = V at hk hn ho hsz ⊢
  obtain ⟨A1, A2, lo, h1, h2, h3⟩ := h
  obtain ⟨b1, rfl, q1⟩ := o1
  obtain ⟨b2, rfl, q2⟩ := o2
  have ks : ∀ k, tb + 1 ≤ k → k < W.heap.size → V.heap[k]? = W.heap[k]? := fun k h4 h5 => hk.block k h5 (by omega)
  refine ⟨fun k => if k = ys.length then b1 else A1 k, fun k => if k = ys.length then b2 else A2 k, fun k => if k ≤ ys.length then lo k else W.heap.size, fun k hk2 => ?_, fun k hk2 => ?_, fun k v hv => ?_⟩
  · by_cases e : k ≤ ys.length
    · simp only [if_pos e]
      have := h1 k e
      omega
    · simp only [if_neg e]
      omega
  · simp at hk2
    have e : k ≤ ys.length := by omega
    simp only [if_pos e]
    by_cases e2 : k + 1 ≤ ys.length
    · simp only [if_pos e2]
      exact h2 k (by omega)
    · simp only [if_neg e2]
      have := h1 k e
      omega
  · have hkl := (List.getElem?_eq_some_iff.1 hv).1
    simp at hkl
    by_cases e : k < ys.length
    · rw [List.getElem?_append_left e] at hv
      have hq := h3 k v hv
      have hl := h1 k (by omega)
      simp only [if_neg (show ¬ k = ys.length by omega), if_pos (show k ≤ ys.length by omega), if_pos (show k + 1 ≤ ys.length by omega)]
      exact ⟨(ho _ (by omega)).trans hq.c3, (ho _ (by omega)).trans hq.c5, hq.k1.keep ks (by omega), hq.k2.keep ks (by omega)⟩
    · obtain rfl : k = ys.length := by omega
      simp at hv
      subst hv
      simp only [if_true, if_pos (Nat.le_refl ys.length), if_neg (show ¬ ys.length + 1 ≤ ys.length by omega)]
      have hl := h1 ys.length (Nat.le_refl _)
      refine ⟨hn.c3, hn.c5, fun hne => ?_, fun hne => ?_⟩
      · obtain ⟨b, cs, e1, e2, e3, e4⟩ := q1 hne
        exact ⟨b, cs, e1, by omega, e3, (ks b (by omega) e3).trans e4⟩
      · obtain ⟨b, cs, e1, e2, e3, e4⟩ := q2 hne
        exact ⟨b, cs, e1, by omega, e3, (ks b (by omega) e3).trans e4⟩

theorem Tb.set {w W : World} {p : Nat} {bs : List Int} {a s q tb N : Nat} {f : Int} {ys : List Txd} (h : Tb w W p bs a s q tb N f ys) (hm : ys.length < N) (t : Txd) (S1 S2 : Value) (h1 : CdAt (tb + 1) W S1 t.xs) (h2 : VsAt (tb + 1) W S2 t.vs) {L : Nat} (hL : tb < L ∧ L ≤ W.heap.size) (hss : Ss L W tb ys) (o1 : ∃ ao, S1 = .slice ao t.xs.length t.xs.length ∧ Lk W 52 L W.heap.size ao t.xs.length) (o2 : ∃ ao, S2 = .slice ao t.vs.length t.vs.length ∧ Lk W 50 L W.heap.size ao t.vs.length) :
    Tb w (put6o W tb (ys.length * 6) (.int .i64 t.k) (.string t.pn) (.int .i64 t.pa) S1 (.string t.nm) S2) p bs a s q tb N f (ys ++ [t]) := by
  have hk := kept6o W tb (ys.length * 6) (.int .i64 t.k) (.string t.pn) (.int .i64 t.pa) S1 (.string t.nm) S2
  have hl := h.lt
  have hq := h.tq.lq
  have hsm : Same (tb + 1) W (put6o W tb (ys.length * 6) (.int .i64 t.k) (.string t.pn) (.int .i64 t.pa) S1 (.string t.nm) S2) := Same.kept hk (fun k h1 _ => by omega)
  refine ⟨⟨h.tq.ta.put (by omega) hk, (hk.block _ (lt_of h.tq.r2) (by omega)).trans h.tq.r2, hq⟩, blk_set (blk_set (blk_set (blk_set (blk_set (blk_set h.bk))))), ?_, ?_, hl, ?_⟩
  rotate_left 2
  · exact ss_set hss hL hk (h.c2 ys.length (Nat.le_refl _) hm) o1 o2
  · intro j u hu
    by_cases hj : j < ys.length
    · rw [List.getElem?_append_left hj] at hu
      obtain ⟨T1, T2, e1, e2, e3⟩ := h.c1 j u hu
      exact ⟨T1, T2, e1.moved (fun m hm => put6_off _ _ _ _ _ _ (by omega)), e2.same hsm, e3.same hsm⟩
    · have hj2 : j = ys.length := by
        have := (List.getElem?_eq_some_iff.1 hu).1
        simp at this
        omega
      subst hj2
      simp at hu
      subst hu
      exact ⟨S1, S2, put6_at (h.c2 ys.length (Nat.le_refl _) hm) t S1 S2, h1.same hsm, h2.same hsm⟩
  · intro j h1 h2
    simp at h1
    exact (h.c2 j (by omega) h2).moved (fun m hm => put6_off _ _ _ _ _ _ (by omega))

theorem tb_start {w W : World} {p : Nat} {bs : List Int} {a s q N : Nat} {f : Int} {S0 : Value} (h : Tq w W p bs a s q (bo f S0)) :
    Tb w ((W.setCell ⟨q, 1, none⟩ (.slice (some ⟨W.heap.size, 0, none⟩) N N)).alloc (.cells (madeCells tCells (N * 6)) 30)) p bs a s q W.heap.size N f [] := by
  obtain ⟨e1, e2⟩ := bo_set h.r2 (.slice (some ⟨W.heap.size, 0, none⟩) N N)
  have h2 : Tq w (W.setCell ⟨q, 1, none⟩ (.slice (some ⟨W.heap.size, 0, none⟩) N N)) p bs a s q (bo f (.slice (some ⟨W.heap.size, 0, none⟩) N N)) := ⟨h.ta.put h.lq e2, e1, h.lq⟩
  have hz : (W.setCell ⟨q, 1, none⟩ (.slice (some ⟨W.heap.size, 0, none⟩) N N)).heap.size = W.heap.size := by simp [World.setCell]
  have hq := lt_of h.r2
  generalize W.setCell ⟨q, 1, none⟩ (.slice (some ⟨W.heap.size, 0, none⟩) N N) = V at *
  have hb := heap_alloc_new V (.cells (madeCells tCells (N * 6)) 30)
  rw [hz] at hb
  have hsz : W.heap.size < (V.alloc (.cells (madeCells tCells (N * 6)) 30)).heap.size := by simp; omega
  exact ⟨h2.below (below1 V _), ⟨_, hb⟩, fun j v hv => by simp at hv, fun j _ h4 => by have := made_tx V N j h4; rwa [hz] at this, hq, ⟨fun _ => none, fun _ => none, fun _ => W.heap.size + 1, fun k _ => ⟨Nat.lt_succ_self _, hsz⟩, fun k hk => (by simp at hk), fun k t ht => (by simp at ht)⟩⟩

theorem Tb.fin {w W : World} {p : Nat} {bs : List Int} {a s q tb N : Nat} {f : Int} {ys : List Txd} (h : Tb w W p bs a s q tb N f ys) (hN : ys.length = N) :
    ((W.setCell ⟨w.heap.size, 0, none⟩ (.int .i64 f)).setCell ⟨w.heap.size, 1, none⟩ (.slice (some ⟨tb, 0, none⟩) N N)).heap[w.heap.size]? = some (.cells #[.int .i64 f, .slice (some ⟨tb, 0, none⟩) N N] 24 (0, 0)) ∧
    TKB w (.ok (f, ys)) (.returned (.agg #[.int .i64 f, .slice (some ⟨tb, 0, none⟩) N N])) ((W.setCell ⟨w.heap.size, 0, none⟩ (.int .i64 f)).setCell ⟨w.heap.size, 1, none⟩ (.slice (some ⟨tb, 0, none⟩) N N)) := by
  have hk : Kept (fun k => k = w.heap.size) W ((W.setCell ⟨w.heap.size, 0, none⟩ (.int .i64 f)).setCell ⟨w.heap.size, 1, none⟩ (.slice (some ⟨tb, 0, none⟩) N N)) :=
    ((Kept.refl (fun k => k = w.heap.size) W).setCell (p := ⟨w.heap.size, 0, none⟩) (fun _ => rfl) _).setCell (p := ⟨w.heap.size, 1, none⟩) (fun _ => rfl) _
  have h0 := h.tq.ta.r0
  have h1 := h.tq.ta.lp
  have h2 := h.tq.ta.ls
  have h3 := h.tq.lq
  have h4 := h.lt
  refine ⟨by simp [World.setCell, Array.getElem?_modify, h0], h.tq.ta.hb.trans (hk.below h.tq.ta.hb.size (fun k h1 h2 => by omega)), _, rfl, ?_, ?_⟩
  rotate_left
  · obtain ⟨cs, hc⟩ := h.bk
    subst hN
    exact ⟨tb, rfl, by omega, ⟨cs, (hk.block tb (lt_of hc) (by omega)).trans hc⟩, (h.st.keep (fun k h5 h6 => hk.block k h6 (by omega)) (lt_of hc)).up hk.size⟩
  have hs : Same (w.heap.size + 1) W ((W.setCell ⟨w.heap.size, 0, none⟩ (.int .i64 f)).setCell ⟨w.heap.size, 1, none⟩ (.slice (some ⟨tb, 0, none⟩) N N)) := Same.kept hk (fun k h1 _ => by omega)
  refine TsAt.mono (B := w.heap.size + 1) (TsAt.same (w := W) ?_ hs) (by omega)
  subst hN
  exact ⟨_, _, rfl, Nat.le_refl _, fun _ => ⟨tb, 0, rfl, by omega, fun j t ht => by rw [Nat.zero_add]; exact (h.c1 j t ht).mono (by omega)⟩⟩

end Go.Proofs.Ytdnlfacfleemeaa.O

namespace Go.Proofs.Ytdnlfacfleemeaa.O
open Go.RowKit Go.Lib

theorem ow_lk {w wr w7 : World} {p : Nat} {bs : List Int} {b s q tb N : Nat} {f : Int} {ys : List Txd} {S1 S2 : Value} {n1 n2 : Nat} (hT : Tb w wr p bs b s q tb N f ys) (h7 : Kept (fun k => k = p) wr.drew w7) (h11 : Ow wr.drew w7 52 S1 n1) (h12 : Ow wr.drew w7 50 S2 n2) :
    (tb < wr.heap.size ∧ wr.heap.size ≤ w7.heap.size) ∧ Ss wr.heap.size w7 tb ys ∧ (∃ ao, S1 = .slice ao n1 n1 ∧ Lk w7 52 wr.heap.size w7.heap.size ao n1) ∧ (∃ ao, S2 = .slice ao n2 n2 ∧ Lk w7 50 wr.heap.size w7.heap.size ao n2) := by
  obtain ⟨cs, hc⟩ := hT.bk
  have l1 := hT.tq.ta.ls
  have l2 := hT.tq.lq
  have l3 := hT.lt
  obtain ⟨a1, e1, g1⟩ := h11
  obtain ⟨a2, e2, g2⟩ := h12
  refine ⟨⟨lt_of hc, h7.size⟩, hT.st.keep (fun k h5 h6 => h7.block k h6 (by omega)) (lt_of hc), ⟨a1, e1, fun hn => ?_⟩, ⟨a2, e2, fun hn => ?_⟩⟩
  · obtain ⟨b, cs, r1, r2, r3⟩ := g1 hn
    exact ⟨b, cs, r1, r2, lt_of r3, r3⟩
  · obtain ⟨b, cs, r1, r2, r3⟩ := g2 hn
    exact ⟨b, cs, r1, r2, lt_of r3, r3⟩

set_option maxRecDepth 100000 in
set_option maxHeartbeats 8000000 in
theorem btake_any (v : Value) (bs : List Int) (w : World) (h : Sl w v bs) (ho : Oct bs) (hl : bs.length ≤ 1000000000) :
    Calls Try.prog 21 #[v] w (TKB w (tkBat bs)) := by
  have HRD := hid (read_any v bs (w.alloc (bo 0 (.slice none 0 0))) (h.below (below1 w _)) ho hl)
  obtain ⟨ao, cap, rfl, hcap, -⟩ := h
  have HN := hid (fun (p : Nat) W (hr : Rd W p (some (w.heap.size + 1)) bs 0 0) => snum_any p bs.length (some (w.heap.size + 1)) bs 0 W hr)
  unfold rdX at HN
  unfold tkBat
  obtain ⟨⟨⟨u1, t1⟩, a1, e1⟩, ht1⟩ : ∃ t, takeZ 1 0 bs 0 0 = t := ⟨_, rfl⟩
  rw [ht1] at HN ⊢
  dsimp only at HN ⊢
  clear ht1
  by_cases he1 : e1 = 0
  · subst he1
    rw [if_pos rfl] at HN ⊢
    unfold SP at HN
    dsimp only at HN
    have HC := hid (fun (p : Nat) W (hr : Rd W p (some (w.heap.size + 1)) bs a1 0) => scount_any p bs.length 64 1 (some (w.heap.size + 1)) bs a1 W hr)
    unfold cntX at HC
    unfold tkBatN
    have bd := takeZ_bd 1 0 bs a1 0 ho
    obtain ⟨⟨⟨u2, t2⟩, a2, e2⟩, ht2⟩ : ∃ t, takeZ 1 0 bs a1 0 = t := ⟨_, rfl⟩
    rw [ht2] at HC bd ⊢
    dsimp only at HC bd ⊢
    have hu0 : 0 ≤ u2 := bd.1
    clear bd ht2 ho
    by_cases he2 : e2 = 0
    · subst he2
      rw [if_pos rfl] at HC ⊢
      by_cases h64 : u2 ≤ 64
      · rw [if_pos h64] at HC ⊢
        unfold SP at HC
        dsimp only at HC
        obtain ⟨N, rfl⟩ : ∃ N : Nat, u2 = N := ⟨u2.toNat, by omega⟩
        have hN : N ≤ 64 := by omega
        rw [Int.toNat_natCast]
        obtain ⟨Z, hZ⟩ : ∃ Z, Z = tkBEnd bs u1 (tkTs bs N a2) := ⟨_, rfl⟩
        have HZ := hid hZ
        rw [← hZ]
        clear hZ h64 hu0
        go_enter Try.func21, Try.ntmps21
        go_upto_region 4 with (first
          | (go_at_call 33
             refine HRD.out.mono ?_
             rintro e w1 ⟨p, rfl, hp, hr, hb⟩
             have H1 := hid (ta_start (o := so p bs.length) rfl hp hr hb)
             have HNp := hid (HN.out p)
             obtain ⟨p0, p1, -⟩ := vfacts2 (heap_alloc_new w1 (so p bs.length))
             clear hp hr hb)
          | (go_at_call 34
             refine (HNp.out _ H1.out.rd).mono ?_
             rintro e w2 ⟨h2, rfl, h3⟩
             have H2 := hid (tq_start (H1.out.read h2 h3) (bo u1 (.slice none 0 0)))
             obtain ⟨p0, p1, -⟩ := vfacts2 H2.out.ta.r1
             have HCp := hid (HC.out p)
             clear h2 h3)
          | (go_at_call 35
             refine (HCp.out _ H2.out.ta.rd).mono ?_
             rintro e w3 ⟨h4, rfl, h5⟩
             have H3 := hid (H2.out.read h4 h5)
             have hmk := make30 N hN w3
             have H4 := hid (tb_start (N := N) H3.out)
             obtain ⟨q0, q1, qz⟩ := vfacts2 (H3.out.below (below1 w3 (.cells (madeCells tCells (N * 6)) 30))).r2
             have hq2 := lt_of H3.out.r2
             clear h4 h5))
        refine cutG (fun W => Tb w W p bs a2 w1.heap.size w2.heap.size w3.heap.size N u1 []) H4.out ?_
        intro W0 H6
        have H6 := hid H6
        obtain ⟨s, hs⟩ : ∃ s, s = w1.heap.size := ⟨_, rfl⟩
        obtain ⟨q, hq⟩ : ∃ q, q = w2.heap.size := ⟨_, rfl⟩
        obtain ⟨tb, htb⟩ : ∃ tb, tb = w3.heap.size := ⟨_, rfl⟩
        rw [← hs, ← hq, ← htb] at H6
        rw [← hs, ← hq]
        clear H1 H2 H3 H4 HNp HCp HN HC q0 q1 qz hq2 hmk p0 p1
        obtain ⟨q0, q1, qz⟩ := vfacts2 H6.out.tq.r2
        clear hs hq htb
        go_wp2
        go_loopw [21] (fun ix wr => ∃ (m : Nat) (ys : List Txd) (b : Nat), m ≤ N ∧ ix = .int .i64 m ∧ ys.length = m ∧ Hid (Tb w wr p bs b s q tb N u1 ys) ∧ Hid (preT ys (tkTs bs (N - m) b) = tkTs bs N a2)) (fun ix _ => N - (intOf ix).toNat)
        case atStart =>
          refine ⟨0, [], a2, Nat.zero_le _, rfl, rfl, H6, hid ?_⟩
          rw [Nat.sub_zero]
          cases tkTs bs N a2 with
          | error E => rfl
          | ok r => rfl
        case round =>
          clear H6 q0 q1 qz
          obtain ⟨m, ys, b, hm, rfl, hys, hT, hK⟩ := hrel
          obtain ⟨q0, q1, qz⟩ := vfacts2 hT.out.tq.r2
          obtain ⟨p0, p1, pz⟩ := vfacts2 hT.out.tq.ta.r1
          by_cases hlt : m < N
          · have hlt' : (m : Int) < (N : Int) := by omega
            have HV := hid (fun W (hW : Tb w W p bs b s q tb N u1 ys) => txn_any p (some (w.heap.size + 1)) bs b W hW.tq.ta.rd (fun k hk => by have h1 := hW.tq.ta.lp; have h2 := hW.tq.ta.rd.plt; injection hk; omega))
            have hsub : N - m = (N - (m + 1)) + 1 := by omega
            rw [hsub] at hK
            clear hsub
            cases hv : tkTx bs b with
            | error E =>
              rw [hv] at HV
              unfold TXP at HV
              dsimp only at HV
              have hk2 := hK.out
              rw [preT_no bs _ _ _ E hv] at hk2
              have HK2 := hid hk2
              clear hk2 hK hv
              go_upto_region 7 with fail
              go_region_dies
              all_goals (
                refine (HV.out _ (hT.out.below (below_drew wr))).mono ?_
                rintro e w7 ⟨h7, rfl⟩
                refine ⟨rfl, ?_⟩
                rw [HZ.out, ← HK2.out]
                exact ⟨(hT.out.below (below_drew wr)).tq.ta.errs h7, rfl⟩)
            | ok r =>
              obtain ⟨t, b2⟩ := r
              rw [hv] at HV
              unfold TXP at HV
              dsimp only at HV
              have hk2 := hK.out
              rw [preT_ok bs _ _ _ t b2 hv] at hk2
              have HK2 := hid hk2
              clear hk2 hK hv
              go_upto_region 7 with fail
              have lt1 := hT.out.lt
              have lt2 := hT.out.tq.lq
              have nq : tb ≠ q := by omega
              have ns : tb ≠ s := by omega
              clear lt1 lt2
              go_region_with (first
                | (go_at_call 36
                   refine (HV.out _ (hT.out.below (below_drew _))).mono ?_
                   rintro e w7 ⟨h7, S1, S2, rfl, h8, h9, h10, h11, h12⟩
                   have H7 := hid ((hT.out.below (below_drew wr)).read h7 h10)
                   have HS := hid (And.intro (h8.mono (B' := tb + 1) (by obtain ⟨cs, hcs⟩ := hT.out.bk; exact lt_of hcs)) (h9.mono (B' := tb + 1) (by obtain ⟨cs, hcs⟩ := hT.out.bk; exact lt_of hcs)))
                   have HO2 := hid (ow_lk (hT := hT.out) h7 h11 h12)
                   obtain ⟨a1', c1', rfl⟩ := h8.form
                   obtain ⟨a2', c2', rfl⟩ := h9.form
                   obtain ⟨q0, q1, qz⟩ := vfacts2 H7.out.tq.r2
                   obtain ⟨p0, p1, pz⟩ := vfacts2 H7.out.tq.ta.r1
                   obtain ⟨v0, v1, v2, v3, v4, v5⟩ := H7.out.c2 m (by omega) hlt
                   have vz : ∀ o, w7.frozen? ⟨tb, o, none⟩ = false := fun o => by obtain ⟨cs, hcs⟩ := H7.out.bk; simp [World.frozen?, hcs]
                   clear h7 h8 h9 h10 h11 h12))
              all_goals (
                have HF := hid (H7.out.set (by omega) t _ _ HS.out.1 HS.out.2 HO2.out.1 HO2.out.2.1 HO2.out.2.2.1 HO2.out.2.2.2)
                rw [hys] at HF
                refine cutG (fun W => Tb w W p bs b2 s q tb N u1 (ys ++ [t])) HF.out ?_
                intro W8 H8
                have H8 := hid H8
                clear HF H7 HS HO2 q0 q1 qz p0 p1 pz v0 v1 v2 v3 v4 v5 vz
                go_wp2
                go_roundw
                case rel => exact ⟨m + 1, ys ++ [t], b2, by omega, by go_num, by simp [hys], H8, HK2⟩
                case measure => simp [intOf]; omega)
          · have hmN : m = N := by omega
            have hk2 := hK.out
            rw [hmN, Nat.sub_self, tkTs] at hk2
            have HK2 := hid hk2
            have HNN := hid (hys.trans hmN)
            clear hk2 hK hys
            have hd4 : decide ((m : Int) < (N : Int)) = false := by simp; omega
            clear hmN
            have HEn := hid (end_any p (some (w.heap.size + 1)) bs b 0 wr hT.out.tq.ta.rd)
            have HZ2 : Hid (Z = if endZ bs.length b 0 = 0 then .ok (u1, ys) else .error (endZ bs.length b 0)) := hid (by
              rw [HZ.out, ← HK2.out]
              simp [preT, tkBEnd])
            generalize endZ bs.length b 0 = E at *
            by_cases hE : E = 0
            · subst hE
              rw [if_pos rfl] at HZ2
              go_upto_region 10 with (first
                | (go_at_call 37
                   refine HEn.out.mono ?_
                   rintro e w8 ⟨⟨nq, e8⟩, rfl⟩
                   have H8 := hid (hT.out.below (show Below wr.heap.size wr w8 by rw [e8]; exact ⟨rfl, rfl, rfl, Nat.le_refl _, fun _ _ => rfl⟩))
                   clear e8 nq
                   dsimp only)
                | (go_at_call 22; refine (binsist_ok _).mono ?_; rintro e w9 ⟨rfl, e9⟩; rw [e9]; clear e9 w9))
              obtain ⟨q0, q1, qz⟩ := vfacts2 H8.out.tq.r2
              obtain ⟨r0, r1, rz⟩ := vfacts2 H8.out.tq.ta.r0
              have hl1 := H8.out.tq.ta.lp
              have hl2 := H8.out.tq.ta.ls
              have hl3 := H8.out.tq.lq
              go_wp2
              obtain ⟨f1, f2⟩ := H8.out.fin HNN.out
              refine bodyPost_ret (retB Try.results21 rfl f1) rfl ?_
              rw [HZ2.out]
              exact f2
            · rw [if_neg hE] at HZ2
              go_wp2_with (first
                | (go_at_call 37
                   refine HEn.out.mono ?_
                   rintro e w8 ⟨⟨nq, e8⟩, rfl⟩
                   have H8 := hid (hT.out.below (show Below wr.heap.size wr w8 by rw [e8]; exact ⟨rfl, rfl, rfl, Nat.le_refl _, fun _ _ => rfl⟩))
                   clear e8 nq
                   dsimp only)
                | (go_at_call 22; refine (binsist_no E hE _).mono ?_; rintro e w9 ⟨rfl, e9⟩; rw [e9]; clear e9 w9))
              refine ⟨rfl, ?_⟩
              rw [HZ2.out]
              exact ⟨H8.out.tq.ta.hb, rfl⟩
      · rw [if_neg h64] at HC ⊢
        unfold SP at HC
        unfold TKB
        dsimp only at HC ⊢
        clear h64 hu0
        go_enter Try.func21, Try.ntmps21
        go_wp2_with (first
          | (go_at_call 33
             refine HRD.out.mono ?_
             rintro e w1 ⟨p, rfl, hp, hr, hb⟩
             have H1 := hid (ta_start (o := so p bs.length) rfl hp hr hb)
             have HNp := hid (HN.out p)
             obtain ⟨p0, p1, -⟩ := vfacts2 (heap_alloc_new w1 (so p bs.length))
             clear hp hr hb)
          | (go_at_call 34
             refine (HNp.out _ H1.out.rd).mono ?_
             rintro e w2 ⟨h2, rfl, h3⟩
             have H2 := hid (tq_start (H1.out.read h2 h3) (bo u1 (.slice none 0 0)))
             obtain ⟨p0, p1, -⟩ := vfacts2 H2.out.ta.r1
             have HCp := hid (HC.out p)
             clear h2 h3)
          | (go_at_call 35
             refine (HCp.out _ H2.out.ta.rd).mono ?_
             rintro e w3 ⟨h4, rfl⟩
             have H3 := hid (H2.out.ta.errs h4)
             clear h4))
        exact ⟨rfl, H3.out, rfl⟩
    · rw [if_neg he2] at HC ⊢
      unfold SP at HC
      unfold TKB
      dsimp only at HC ⊢
      clear hu0
      go_enter Try.func21, Try.ntmps21
      go_wp2_with (first
        | (go_at_call 33
           refine HRD.out.mono ?_
           rintro e w1 ⟨p, rfl, hp, hr, hb⟩
           have H1 := hid (ta_start (o := so p bs.length) rfl hp hr hb)
           have HNp := hid (HN.out p)
           obtain ⟨p0, p1, -⟩ := vfacts2 (heap_alloc_new w1 (so p bs.length))
           clear hp hr hb)
        | (go_at_call 34
           refine (HNp.out _ H1.out.rd).mono ?_
           rintro e w2 ⟨h2, rfl, h3⟩
           have H2 := hid (tq_start (H1.out.read h2 h3) (bo u1 (.slice none 0 0)))
           obtain ⟨p0, p1, -⟩ := vfacts2 H2.out.ta.r1
           have HCp := hid (HC.out p)
           clear h2 h3)
        | (go_at_call 35
           refine (HCp.out _ H2.out.ta.rd).mono ?_
           rintro e w3 ⟨h4, rfl⟩
           have H3 := hid (H2.out.ta.errs h4)
           clear h4))
      exact ⟨rfl, H3.out, rfl⟩
  · rw [if_neg he1] at HN ⊢
    unfold SP at HN
    unfold TKB
    dsimp only at HN ⊢
    clear ho
    go_enter Try.func21, Try.ntmps21
    go_wp2_with (first
      | (go_at_call 33
         refine HRD.out.mono ?_
         rintro e w1 ⟨p, rfl, hp, hr, hb⟩
         have H1 := hid (ta_start (o := so p bs.length) rfl hp hr hb)
         have HNp := hid (HN.out p)
         obtain ⟨p0, p1, -⟩ := vfacts2 (heap_alloc_new w1 (so p bs.length))
         clear hp hr hb)
      | (go_at_call 34
         refine (HNp.out _ H1.out.rd).mono ?_
         rintro e w2 ⟨h2, rfl⟩
         have H2 := hid (H1.out.errs h2)
         clear h2))
    exact ⟨rfl, H2.out, rfl⟩

end Go.Proofs.Ytdnlfacfleemeaa.O

namespace Go.Proofs.Ytdnlfacfleemeaa.O
open Go.RowKit Go.Lib

/-- What Decode leaves. -/
def DB (w : World) (r : Except Int (Int × List Txd)) (e : Ending) (w' : World) : Prop :=
  Below w.heap.size w w' ∧ match r with
  | .ok (f, ts) => ∃ S, e = .returned (.tuple #[.agg #[.int .i64 f, S], .int .i64 0]) ∧ TsAt w.heap.size w' S ts ∧ Str w.heap.size w' S ts
  | .error E => e = .returned (.tuple #[.agg #[.int .i64 0, .slice none 0 0], .int .i64 E])

set_option maxRecDepth 100000 in
set_option maxHeartbeats 4000000 in
theorem bdecode_long (v : Value) (bs : List Int) (w : World) (h : Sl w v bs) (hlen : 65536 < bs.length) : Calls Try.prog 10 #[v] w (DB w (.error 4)) := by
  have H1 := hid (bdoor (Below.refl _ ((w.alloc (bo 0 (.slice none 0 0))).alloc (.cells #[.int .i64 0] 32))))
  obtain ⟨ao, cap, rfl, -, -⟩ := h
  have hmf : ∀ (fn : Fn) (first cap : Array Value) (w : World), (Instr.makeFunc fn first cap).run Try.prog w = .ok (.func fn first cap) w := fun _ _ _ _ => rfl
  have hl' : (65536 : Int) < (bs.length : Int) := by omega
  unfold DB
  dsimp only
  clear hlen
  go_enter_defers Try.func10, Try.ntmps10
  go_wp2
  refine leaves_cons (f := 20) (args := #[.pointer (some ⟨w.heap.size, 0, none⟩), .pointer (some ⟨w.heap.size + 1, 0, none⟩)]) (by simp) (by simp [go_sem]) ?_
  refine (bcatch_ref (w.heap.size + 1) w.heap.size 0 (.slice none 0 0) 0 4 _ H1.out.1 H1.out.2.1).mono ?_
  rintro e u' w2 ⟨rfl, rfl, h2, h3, hk⟩
  exact ⟨_, ret10 h2 h3, H1.out.2.2.trans (hk.below H1.out.2.2.size (fun k h1 h2 => by omega)), rfl⟩

set_option maxRecDepth 100000 in
set_option maxHeartbeats 4000000 in
theorem bdecode_take_no (v : Value) (bs : List Int) (w : World) (h : Sl w v bs) (ho : Oct bs) (hl : bs.length ≤ 65536) (E : Int) (hE : tkBat bs = .error E) : Calls Try.prog 10 #[v] w (DB w (.error E)) := by
  have HT := hid (fun W (hW : Sl W v bs) => btake_any v bs W hW ho (by omega))
  rw [hE] at HT
  unfold TKB at HT
  dsimp only at HT
  have HH := hid h
  obtain ⟨ao, cap, rfl, -, -⟩ := h
  have hmf : ∀ (fn : Fn) (first cap : Array Value) (w : World), (Instr.makeFunc fn first cap).run Try.prog w = .ok (.func fn first cap) w := fun _ _ _ _ => rfl
  have hl' : decide ((65536 : Int) < (bs.length : Int)) = false := by simp; omega
  unfold DB
  dsimp only
  clear hl hE
  go_enter_defers Try.func10, Try.ntmps10
  go_wp2_with (first
    | (go_at_call 21
       refine (HT.out _ (HH.out.below (below2 w _ _))).mono ?_
       rintro e w1 ⟨hb1, rfl⟩
       have H1 := hid (bdoor hb1)
       clear hb1))
  refine leaves_cons (f := 20) (args := #[.pointer (some ⟨w.heap.size, 0, none⟩), .pointer (some ⟨w.heap.size + 1, 0, none⟩)]) (by simp) (by simp [go_sem]) ?_
  refine (bcatch_ref (w.heap.size + 1) w.heap.size 0 (.slice none 0 0) 0 E w1 H1.out.1 H1.out.2.1).mono ?_
  rintro e u' w2 ⟨rfl, rfl, h2, h3, hk⟩
  exact ⟨_, ret10 h2 h3, H1.out.2.2.trans (hk.below H1.out.2.2.size (fun k h1 h2 => by omega)), rfl⟩

/-- Behind take: the result's block, the list. -/
structure Db (w W : World) (f : Int) (S : Value) (ts : List Txd) : Prop where
  sr : Str (w.heap.size + 2) W S ts
  r2 : W.heap[w.heap.size]? = some (bo f S)
  r3 : W.heap[w.heap.size + 1]? = some (.cells #[.int .i64 0] 32 (0, 0))
  ts : TsAt (w.heap.size + 2) W S ts
  hb : Below w.heap.size w W

theorem Db.below {w W W' : World} {f : Int} {S : Value} {ts : List Txd} (h : Db w W f S ts) (hb : Below W.heap.size W W') : Db w W' f S ts :=
  ⟨h.sr.below hb, blk_of hb h.r2 (lt_of h.r2), blk_of hb h.r3 (lt_of h.r3), h.ts.below hb, below_on h.hb hb⟩

theorem db_put {w w1 : World} {f0 f : Int} {S0 S : Value} {ts : List Txd} (h1 : w1.heap[w.heap.size]? = some (bo f0 S0) ∧ w1.heap[w.heap.size + 1]? = some (.cells #[.int .i64 0] 32 (0, 0)) ∧ Below w.heap.size w w1) (ht : TsAt (w.heap.size + 2) w1 S ts) (hs : Str (w.heap.size + 2) w1 S ts) :
    Db w (putB w1 w.heap.size (.int .i64 f) S) f S ts := by
  have k : Kept (fun k => k = w.heap.size) w1 (putB w1 w.heap.size (.int .i64 f) S) := ((Kept.refl (fun k => k = w.heap.size) w1).setCell (p := ⟨w.heap.size, 0, none⟩) (fun _ => rfl) _).setCell (p := ⟨w.heap.size, 1, none⟩) (fun _ => rfl) _
  obtain ⟨e1, e2, e3⟩ := h1
  exact ⟨hs.same (Same.kept k (fun k h1 _ => by omega)) k.size, by simp [putB, World.setCell, Array.getElem?_modify, e1], (k.block _ (lt_of e2) (by omega)).trans e2, ht.same (Same.kept k (fun k h1 _ => by omega)), e3.trans (k.below e3.size (fun k h1 h2 => by omega))⟩

theorem Db.fin {w W : World} {f : Int} {S : Value} {ts : List Txd} (h : Db w W f S ts) :
    ((putB W w.heap.size (.int .i64 f) S).setCell ⟨w.heap.size + 1, 0, none⟩ (.int .i64 0)).heap[w.heap.size]? = some (bo f S) ∧
    ((putB W w.heap.size (.int .i64 f) S).setCell ⟨w.heap.size + 1, 0, none⟩ (.int .i64 0)).heap[w.heap.size + 1]? = some (.cells #[.int .i64 0] 32 (0, 0)) ∧
    Below w.heap.size w ((putB W w.heap.size (.int .i64 f) S).setCell ⟨w.heap.size + 1, 0, none⟩ (.int .i64 0)) ∧
    TsAt w.heap.size ((putB W w.heap.size (.int .i64 f) S).setCell ⟨w.heap.size + 1, 0, none⟩ (.int .i64 0)) S ts ∧ Str w.heap.size ((putB W w.heap.size (.int .i64 f) S).setCell ⟨w.heap.size + 1, 0, none⟩ (.int .i64 0)) S ts := by
  have h2 := db_put (f := f) ⟨h.r2, h.r3, h.hb⟩ h.ts h.sr
  generalize putB W w.heap.size (.int .i64 f) S = V at h2
  have k : Kept (fun k => k = w.heap.size + 1) V (V.setCell ⟨w.heap.size + 1, 0, none⟩ (.int .i64 0)) := (Kept.refl (fun k => k = w.heap.size + 1) V).setCell (p := ⟨w.heap.size + 1, 0, none⟩) (fun _ => rfl) _
  have e3 := h2.r3
  exact ⟨(k.block _ (lt_of h2.r2) (by omega)).trans h2.r2, by simp [World.setCell, Array.getElem?_modify, e3], h2.hb.trans (k.below h2.hb.size (fun k h1 h2 => by omega)), (h2.ts.same (Same.kept k (fun k h1 _ => by omega))).mono (by omega), (h2.sr.same (Same.kept k (fun k h1 _ => by omega)) k.size).mono (by omega)⟩

set_option maxRecDepth 100000 in
set_option maxHeartbeats 4000000 in
theorem bdecode_no (v : Value) (bs : List Int) (w : World) (h : Sl w v bs) (ho : Oct bs) (hl : bs.length ≤ 65536) (f : Int) (ts : List Txd) (hT : tkBat bs = .ok (f, ts)) (hE : batChk f ts ≠ 0) : Calls Try.prog 10 #[v] w (DB w (.error (batChk f ts))) := by
  have HT := hid (fun W (hW : Sl W v bs) => btake_any v bs W hW ho (by omega))
  have hlen := (tkBat_bytes bs ho f ts hT).2.2
  have HC := hid (fun B S W hW => bcheck_any B f S ts W hW (tkBat_L bs ho f ts hT) (by omega))
  rw [hT] at HT
  unfold TKB at HT
  dsimp only at HT
  generalize batChk f ts = E at *
  have HH := hid h
  obtain ⟨ao, cap, rfl, -, -⟩ := h
  have hmf : ∀ (fn : Fn) (first cap : Array Value) (w : World), (Instr.makeFunc fn first cap).run Try.prog w = .ok (.func fn first cap) w := fun _ _ _ _ => rfl
  have hl' : decide ((65536 : Int) < (bs.length : Int)) = false := by simp; omega
  unfold DB
  dsimp only
  clear hl hT
  go_enter_defers Try.func10, Try.ntmps10
  go_wp2_with (first
    | (go_at_call 21
       refine (HT.out _ (HH.out.below (below2 w _ _))).mono ?_
       rintro e w1 ⟨hb1, S, rfl, hts, hsr⟩
       have H1 := hid (db_put (f := f) (bdoor hb1) (hts.mono (by simp)) (hsr.mono (by simp)))
       obtain ⟨c0, c1, cz⟩ := vfacts2 (bdoor hb1).1
       obtain ⟨ao2, cap2, rfl⟩ := hts.form
       clear hb1 hts hsr)
    | (go_at_call 7
       refine (HC.out _ _ _ H1.out.ts).mono ?_
       rintro e w2 ⟨rfl, hb2⟩
       have H2 := hid (H1.out.below hb2)
       clear hb2)
    | (go_at_call 22; refine (binsist_no E hE _).mono ?_; rintro e w3 ⟨rfl, e3⟩; rw [e3]; clear e3 w3))
  refine leaves_cons (f := 20) (args := #[.pointer (some ⟨w.heap.size, 0, none⟩), .pointer (some ⟨w.heap.size + 1, 0, none⟩)]) (by simp) (by simp [go_sem]) ?_
  refine (bcatch_ref (w.heap.size + 1) w.heap.size _ _ 0 E w2 H2.out.r2 H2.out.r3).mono ?_
  rintro e u' w4 ⟨rfl, rfl, h2, h3, hk⟩
  exact ⟨_, ret10 h2 h3, H2.out.hb.trans (hk.below H2.out.hb.size (fun k h1 h2 => by omega)), rfl⟩

set_option maxRecDepth 100000 in
set_option maxHeartbeats 4000000 in
theorem bdecode_ok (v : Value) (bs : List Int) (w : World) (h : Sl w v bs) (ho : Oct bs) (hl : bs.length ≤ 65536) (f : Int) (ts : List Txd) (hT : tkBat bs = .ok (f, ts)) (hE : batChk f ts = 0) : Calls Try.prog 10 #[v] w (DB w (.ok (f, ts))) := by
  have HT := hid (fun W (hW : Sl W v bs) => btake_any v bs W hW ho (by omega))
  have hlen := (tkBat_bytes bs ho f ts hT).2.2
  have HC := hid (fun B S W hW => bcheck_any B f S ts W hW (tkBat_L bs ho f ts hT) (by omega))
  rw [hT] at HT
  rw [hE] at HC
  unfold TKB at HT
  dsimp only at HT
  have HH := hid h
  obtain ⟨ao, cap, rfl, -, -⟩ := h
  have hmf : ∀ (fn : Fn) (first cap : Array Value) (w : World), (Instr.makeFunc fn first cap).run Try.prog w = .ok (.func fn first cap) w := fun _ _ _ _ => rfl
  have hl' : decide ((65536 : Int) < (bs.length : Int)) = false := by simp; omega
  unfold DB
  dsimp only
  clear hl hT hE
  go_enter_defers Try.func10, Try.ntmps10
  go_wp2_with (first
    | (go_at_call 21
       refine (HT.out _ (HH.out.below (below2 w _ _))).mono ?_
       rintro e w1 ⟨hb1, S, rfl, hts, hsr⟩
       have H1 := hid (db_put (f := f) (bdoor hb1) (hts.mono (by simp)) (hsr.mono (by simp)))
       obtain ⟨c0, c1, cz⟩ := vfacts2 (bdoor hb1).1
       obtain ⟨ao2, cap2, rfl⟩ := hts.form
       clear hb1 hts hsr)
    | (go_at_call 7
       refine (HC.out _ _ _ H1.out.ts).mono ?_
       rintro e w2 ⟨rfl, hb2⟩
       have H2 := hid (H1.out.below hb2)
       obtain ⟨c0, c1, cz⟩ := vfacts2 H2.out.r2
       have d0 : w2.cell? ⟨w.heap.size + 1, 0, none⟩ = some (.int .i64 0) := by rw [cell_of_row w2 _ _ _ _ _ H2.out.r3]; rfl
       have dz : ∀ o, w2.frozen? ⟨w.heap.size + 1, o, none⟩ = false := fun o => by simp [World.frozen?, H2.out.r3]
       clear hb2)
    | (go_at_call 22; refine (binsist_ok _).mono ?_; rintro e w3 ⟨rfl, e3⟩; rw [e3]; clear e3 w3))
  refine leaves_cons (f := 20) (args := #[.pointer (some ⟨w.heap.size, 0, none⟩), .pointer (some ⟨w.heap.size + 1, 0, none⟩)]) (by simp) (by simp [go_sem]) ?_
  refine (bcatch_idle _ _ _).mono ?_
  rintro e u' w4 ⟨rfl, rfl, rfl⟩
  obtain ⟨f1, f2, f3, f4, f5⟩ := H2.out.fin
  exact ⟨_, ret10 f1 f2, f3, _, rfl, f4, f5⟩

theorem bdecode_any (v : Value) (bs : List Int) (w : World) (h : Sl w v bs) (ho : Oct bs) : Calls Try.prog 10 #[v] w (DB w (decBat bs)) := by
  unfold decBat
  by_cases hl : bs.length ≤ 65536
  · rw [if_pos hl]
    cases hT : tkBat bs with
    | error E => exact bdecode_take_no v bs w h ho hl E hT
    | ok r =>
      obtain ⟨f, ts⟩ := r
      dsimp only
      by_cases h0 : batChk f ts = 0
      · rw [if_pos h0]
        exact bdecode_ok v bs w h ho hl f ts hT h0
      · rw [if_neg h0]
        exact bdecode_no v bs w h ho hl f ts hT h0
  · rw [if_neg hl]
    exact bdecode_long v bs w h (by omega)

end Go.Proofs.Ytdnlfacfleemeaa.O
