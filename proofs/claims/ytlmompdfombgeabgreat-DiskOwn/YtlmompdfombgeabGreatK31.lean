import Derived.Test.YtlmompdfombgeabGreatK30
import Derived.Deep.CutRange
import Derived.Test.YtlmompdfombgeabGreatK26
import Derived.Test.YtlmompdfombgeabGreatK08
import Derived.Test.YtlmompdfombgeabGreatK09
namespace Go.Proofs.YtlmompdfombgeabGreat
open Go.RowKit Go.MapKept

section
variable {w0 W W' : World} {d1 d2 : Nat} {t1 t2 t' : Wt} {D1 D2 D' : Dq} {g : Nat → Nat} {C : Nat → List Int} {lv rv : Value} {m : Nat} {ls : List Li} {rs : List Ri}

/-- A list that a call of the first disk has answered. -/
theorem Ow.told (o : Ow w0 W d1 t1 D1 d2 t2 D2 g C lv m ls rv rs) {B : Nat} {v : Value} {l : List (ByteArray × List Int)} (hB : W.heap.size ≤ B) (hF : O.FbP W' (fun Y => W.heap.size ≤ Y ∧ ¬ Dft d1 t' D' Y) B v l) (hg : Goes d1 W t1 D1 W' t' D') (hl : l.length ≤ 1000) (hd : ∀ x ∈ l, x.2.length ≤ 4194304) :
    ∃ g' C' x, Li.v x = v ∧ Ow w0 W' d1 t' D' d2 t2 D2 g' C' lv m (ls ++ [x]) rv rs := by
  obtain ⟨ao, c, hb, Y, len, C1, rfl, h1, f, h2, h3, h4, h5⟩ := fk_of hF
  have o2 := o.left hg
  have hge : ∀ q, FkB hb l.length Y q → W.heap.size ≤ q := by
    rintro q (⟨h0, rfl⟩ | ⟨i, hi, rfl⟩)
    · exact Nat.le_trans hB (h3 h0)
    · exact (h4 i hi).1
  obtain ⟨g', C', h6, -⟩ := o2.addL ⟨ao, c, hb, l.length, Y, len⟩ f h1 hl (fun i hi => by
      obtain ⟨x, hx⟩ : ∃ x, l[i]? = some x := ⟨_, List.getElem?_eq_getElem hi⟩
      dsimp only
      rw [h5 i x hx]
      exact hd x (List.mem_of_getElem? hx)) (fun q hq => by
    have h7 := hge q hq
    refine ⟨o.zf q h7, ?_, fun e => ?_, fun e => ?_, fun e => ?_, Nat.le_trans o.tw.hb.size h7, h2 q hq⟩
    · rcases hq with ⟨h0, e⟩ | ⟨i, hi, e⟩
      · obtain ⟨ar, hh⟩ := f.bk h0
        dsimp only at e
        rw [e]
        exact o2.tw.h1.notTy (by decide) hh
      · dsimp only at e
        rw [e]
        exact (h4 i hi).2
    · have := o.tw.h2.lt q e
      omega
    · have := (o.hl.lt q e).2
      omega
    · have := (o.hr.lt q e).2
      omega)
  exact ⟨g', C', _, rfl, h6⟩

/-- A list that a question has answered. -/
theorem Ow.asked (o : Ow w0 W d1 t1 D1 d2 t2 D2 g C lv m ls rv rs) {v : Value} {l : List (ByteArray × List Int)} (hF : FbAt W' W.heap.size v l) (hb : Below W.heap.size W W') (hl : l.length ≤ 1000) (hd : ∀ x ∈ l, x.2.length ≤ 4194304) :
    ∃ g' C' x, Li.v x = v ∧ Ow w0 W' d1 t1 D1 d2 t2 D2 g' C' lv m (ls ++ [x]) rv rs := by
  obtain ⟨ys, h1, h2, h3⟩ := hF
  refine o.told (Nat.le_refl _) ⟨ys, h1, h2, fun i x Y hx hY => ?_⟩ (Goes.still o.tw.h1 hb) hl hd
  obtain ⟨p1, p2⟩ := h3 i x Y hx hY
  exact ⟨p1, p2, fun e => by have := o.tw.h1.lt Y e; omega⟩

end

end Go.Proofs.YtlmompdfombgeabGreat

namespace Go.Proofs.YtlmompdfombgeabGreat
open Go.RowKit Go.MapKept

/-- What is told of names: so many, so long. -/
theorem told_bounds {n : Nat} {D : Dq} (h : WD n D) {l : List (ByteArray × Int)} (hl : NOK D.files l) {cont : Int → List Int} (hc : ∀ m, (cont m).length ≤ 4194304) : (toldN l cont).length ≤ 1000 ∧ ∀ x ∈ toldN l cont, x.2.length ≤ 4194304 := by
  refine ⟨?_, fun x hx => ?_⟩
  · rw [toldN_len]
    have h1 := h.nlen hl
    have h2 := h.cnt
    have h3 := h.lim
    omega
  · unfold toldN at hx
    obtain ⟨nm, _, rfl⟩ := List.mem_map.1 hx
    exact hc _

theorem files_bounds {n : Nat} {D : Dq} (h : WD n D) : (filesD D).length ≤ 1000 ∧ ∀ x ∈ filesD D, x.2.length ≤ 4194304 :=
  told_bounds h h.nam fun m => by
    unfold rowN
    cases hf : ff m D.files with
    | none => simp
    | some f =>
      have h1 := h.peak (ff_mem hf).1
      have h2 := row_le_peak f.safe f.cs
      simp [Fi.row]
      unfold Fi.peak at h1
      omega

theorem safe_bounds {n : Nat} {D : Dq} (h : WD n D) : (safeD D).length ≤ 1000 ∧ ∀ x ∈ safeD D, x.2.length ≤ 4194304 :=
  told_bounds h (by have := h.saf 0; simpa [Dq.namesAt] using this) fun m => by
    unfold safN
    cases hf : ff m D.files with
    | none => simp
    | some f =>
      have h1 := h.peak (ff_mem hf).1
      have h2 := safe_le_peak f.safe f.cs
      simp
      unfold Fi.peak at h1
      omega

theorem crash_bounds {n : Nat} {D : Dq} (h : WD n D) (pn : Int) (pks : List (Int × List Int)) : (crashP pn pks D).1.length ≤ 1000 ∧ ∀ x ∈ (crashP pn pks D).1, x.2.length ≤ 4194304 :=
  told_bounds h (h.saf _) fun m => by
    unfold wholeN
    cases hf : D.files.zipIdx.find? (fun x => decide (x.1.no = m)) with
    | none => simp
    | some x =>
      have h0 := List.mem_of_find?_eq_some hf
      have hm : x.1 ∈ D.files := List.mem_of_getElem? (List.mem_zipIdx_iff_getElem?.1 h0)
      have h1 := h.peak hm
      have h2 := take_le_peak x.1.safe x.1.cs (firstN (pkAt pks x.2).1 x.1.cs.length)
      simp [wholeF]
      unfold Fi.peak at h1
      omega

end Go.Proofs.YtlmompdfombgeabGreat

namespace Go.Proofs.YtlmompdfombgeabGreat
open Go.RowKit Go.MapKept

section
variable {w0 W W' : World} {d1 d2 : Nat} {t1 t2 : Wt} {D1 D2 : Dq} {g : Nat → Nat} {C : Nat → List Int} {lv rv : Value} {m : Nat} {ls : List Li} {rs : List Ri}

/-- One header laid; a block of another type beside it stays. -/
theorem Ow.headOne {x : Li} (o : Ow w0 W d1 t1 D1 d2 t2 D2 g C lv m (ls ++ [x]) rv rs) (hm : ls.length = m) {ao : Option Addr} {c : Nat} {ob : Obj}
    (hown : W'.ownsRow w0.heap.size 38 1 (.slice ao (m + 1) c) (m + 1) (((ls ++ [x]).take m).map Li.v ++ [x.v])) (hgr : (W.alloc ob).grownBy W' lv.ownBlock) (hob : (Value.slice ao (m + 1) c).ownBlock = lv.ownBlock ∨ (Value.slice ao (m + 1) c).ownBlock = some (W.alloc ob).heap.size)
    {xb : Nat} {cs : Array Value} (hx : W.heap[xb]? = some (.cells cs 32 (0, 0))) :
    Ow w0 W' d1 t1 D1 d2 t2 D2 g C (.slice ao (m + 1) c) (m + 1) (ls ++ [x]) rv rs ∧ W'.heap[xb]? = some (.cells cs 32 (0, 0)) := by
  have hk : Kept (fun q => lv.ownBlock = some q) W W' := ((Kept.refl _ W).alloc ob).grown hgr (fun _ _ e => e)
  have hd : ((ls ++ [x]).drop m).take 1 = [x] := by rw [← hm]; simp
  refine ⟨o.headL (k := 1) (by rw [List.length_append]; simp; omega) (by rw [hd]; exact hown) hgr hob, ?_⟩
  refine (hk.block xb (hp_lt hx) fun e => ?_).trans hx
  obtain ⟨c1, h1⟩ := owns_ty o.hl e
  rw [hx] at h1
  injection h1 with h1
  injection h1 with _ h1
  exact absurd h1 (by decide)

end

end Go.Proofs.YtlmompdfombgeabGreat

namespace Go.Proofs.YtlmompdfombgeabGreat
open Go.RowKit Go.MapKept

/-- A row that nobody else has, written over. -/
def OvR (Wp wr : World) (ao : Option Addr) (n : Nat) (e : TypeId) : Prop := Below Wp.heap.size Wp wr ∧ (0 < n → ∃ b cur, ao = some ⟨b, 0, none⟩ ∧ Wp.heap.size ≤ b ∧ wr.heap[b]? = some (.cells cur e (0, 0)) ∧ n ≤ cur.size)

theorem ovr_start {Wp W : World} {e : TypeId} {ao : Option Addr} {n c : Nat} {xs : List Value} (hb : Below Wp.heap.size Wp W) (h : W.ownsRow Wp.heap.size e 1 (.slice ao n c) n xs) : OvR Wp W ao n e := by
  refine ⟨hb, fun h0 => ?_⟩
  rcases h.2 with ⟨_, e1⟩ | ⟨g, cap, cur, e1, hB, hg, h4, h5, h6, h7⟩
  · omega
  · injection e1 with e1 _ _
    exact ⟨g, cur, e1, hB, hg, by omega⟩

theorem OvR.set {Wp wr : World} {ao : Option Addr} {n : Nat} {e : TypeId} (h : OvR Wp wr ao n e) {k : Nat} (hk : k < n) (u : Value) :
    ∃ b v, ao = some ⟨b, 0, none⟩ ∧ wr.cell? ⟨b, k, none⟩ = some v ∧ (∀ o, wr.frozen? ⟨b, o, none⟩ = false) ∧ OvR Wp (wr.setCell ⟨b, k, none⟩ u) ao n e := by
  obtain ⟨b, cur, e1, h1, h2, h3⟩ := h.2 (by omega)
  obtain ⟨v, hv⟩ : ∃ v, cur[k]? = some v := ⟨_, Array.getElem?_eq_getElem (by omega)⟩
  refine ⟨b, v, e1, by rw [cell_of_row _ _ _ _ _ _ h2]; exact hv, fun o => free_of_block h2, h.1.setCell h1 _, fun _ => ⟨b, _, e1, h1, set_block h2 _, by simp; omega⟩⟩

/-- List, on or off. -/
theorem list_any {w : World} {d : Nat} {t : Wt} {D : Dq} {n : Nat} (h : DkT w d t D) (hW : WD n D) : Calls Tryz.prog 26 #[.pointer (some ⟨d, 0, none⟩)] w fun x w' => ∃ ao k c er xs, x = .returned (.tuple #[.slice ao k c, .int .i64 er]) ∧ k ≤ 1000 ∧ w'.ownsRow w.heap.size 9 1 (.slice ao k c) k xs ∧ Below w.heap.size w w' := by
  cases ho : D.off
  · refine (list_on h hW ho).mono ?_
    rintro x w' ⟨v, rfl, h1, h2⟩
    obtain ⟨ao, c, rfl⟩ := own_shape h1
    have h3 := hW.nlen hW.nam
    have h4 := hW.cnt
    have h5 := hW.lim
    exact ⟨ao, _, c, 0, _, rfl, by omega, h1, h2⟩
  · refine (list_off h ho).mono ?_
    rintro x w' ⟨rfl, h2⟩
    exact ⟨none, 0, 0, 11, [], rfl, by omega, owns_nil _ _ _ _, h2⟩

section
variable {w0 W W' : World} {d1 d2 : Nat} {t1 t2 : Wt} {D1 D2 D' : Dq} {g : Nat → Nat} {C : Nat → List Int} {lv rv : Value} {m : Nat} {ls : List Li} {rs : List Ri}

theorem own_at {W : World} {B : Nat} {e : TypeId} {ao : Option Addr} {n c : Nat} {xs : List Value} (h : W.ownsRow B e 1 (.slice ao n c) n xs) (h0 : 0 < n) (h1 : ∀ u ∈ xs, u.oneCell' = true) : ∃ b, ao = some ⟨b, 0, none⟩ ∧ n ≤ c ∧ ∀ j u, xs[j]? = some u → W.cell? ⟨b, j, none⟩ = some u := by
  have hr := rf_of_owns h h1
  obtain ⟨b, off, cap, e1, h2, _, q⟩ := hr.lits h0 (by omega)
  rcases h.2 with ⟨_, e2⟩ | ⟨g, cap', cur, e2, _⟩
  · omega
  · injection e1 with a1 _ a3
    injection e2 with b1 _ _
    rw [b1] at a1
    injection a1 with a1
    injection a1 with a1 a2
    subst a1 a2 a3
    exact ⟨g, b1, h2, fun j u hu => by simpa using q j u hu⟩

/-- The header of a list. -/
theorem Ow.atL {la : Option Addr} {lc : Nat} (o : Ow w0 W d1 t1 D1 d2 t2 D2 g C (.slice la m lc) m ls rv rs) (hm : ls.length = m) (h0 : 0 < m) : ∃ b, la = some ⟨b, 0, none⟩ ∧ m ≤ lc ∧ ∀ j x, ls[j]? = some x → W.cell? ⟨b, j, none⟩ = some (.slice x.ao x.n x.c) := by
  have h := o.hl
  rw [List.take_of_length_le (by omega)] at h
  obtain ⟨b, e, h2, q⟩ := own_at h h0 (by intro u hu; obtain ⟨x, _, rfl⟩ := List.mem_map.1 hu; rfl)
  exact ⟨b, e, h2, fun j x hx => q j _ (by rw [List.getElem?_map, hx]; rfl)⟩

theorem Ow.atR {ra : Option Addr} {k rc : Nat} (o : Ow w0 W d1 t1 D1 d2 t2 D2 g C lv m ls (.slice ra k rc) rs) (hk : rs.length = k) (h0 : 0 < k) : ∃ b, ra = some ⟨b, 0, none⟩ ∧ k ≤ rc ∧ ∀ j x, rs[j]? = some x → W.cell? ⟨b, j, none⟩ = some (.slice x.ao x.n x.c) := by
  have h := o.hr
  rw [hk] at h
  obtain ⟨b, e, h2, q⟩ := own_at h h0 (by intro u hu; obtain ⟨x, _, rfl⟩ := List.mem_map.1 hu; rfl)
  exact ⟨b, e, h2, fun j x hx => q j _ (by rw [List.getElem?_map, hx]; rfl)⟩

/-- A row in hand: nobody's yet. -/
structure Inh (w0 W : World) (d1 : Nat) (t1 : Wt) (D1 : Dq) (d2 : Nat) (t2 : Wt) (D2 : Dq) (g : Nat → Nat) (lv rv : Value) (x : Ri) (C1 : Nat → List Int) : Prop where
  rk : Rk W x.ao x.n x.c x.y C1
  n : x.n ≤ 4194304
  z : x.ao ≠ none → g x.y = 0 ∧ ¬ Dft d1 t1 D1 x.y ∧ ¬ Dft d2 t2 D2 x.y ∧ lv.ownBlock ≠ some x.y ∧ rv.ownBlock ≠ some x.y ∧ w0.heap.size ≤ x.y ∧ x.y < W.heap.size

theorem Inh.below {x : Ri} {C1 : Nat → List Int} (h : Inh w0 W d1 t1 D1 d2 t2 D2 g lv rv x C1) (hb : Below W.heap.size W W') : Inh w0 W' d1 t1 D1 d2 t2 D2 g lv rv x C1 :=
  ⟨h.rk.kept (Kept.ofBelow hb) (fun _ e => e), h.n, fun h0 => by
    obtain ⟨z1, z2, z3, z4, z5, z6, z7⟩ := h.z h0
    exact ⟨z1, z2, z3, z4, z5, z6, Nat.lt_of_lt_of_le z7 hb.size⟩⟩

theorem dft_files {d : Nat} {t : Wt} {D D' : Dq} (hf : D'.files = D.files) (q : Nat) : Dft d t D' q ↔ Dft d t D q := by unfold Dft; rw [hf]

/-- What the first disk has read. -/
theorem Ow.readA (o : Ow w0 W d1 t1 D1 d2 t2 D2 g C lv m ls rv rs) {v : Value} {bs : List Int} (hN : Nb W' W.heap.size v bs) (hd : DkT W' d1 t1 D') (hk : Kept (fun k => k = d1) W W') (hf : D'.files = D1.files) (hl : bs.length ≤ 4194304) :
    ∃ (x : Ri) (C1 : Nat → List Int), v = .slice x.ao x.n x.c ∧ x.n = bs.length ∧ Sl W' v bs ∧ Ow w0 W' d1 t1 D' d2 t2 D2 g C lv m ls rv rs ∧ Inh w0 W' d1 t1 D' d2 t2 D2 g lv rv x C1 := by
  have ho := o.left (o.tw.h1.goes hd hk hf)
  rcases hN with ⟨rfl, rfl⟩ | ⟨Y, rfl, hY, hB⟩
  · refine ⟨⟨none, 0, 0, 0⟩, fun _ => [], rfl, rfl, sl_none _, ho, ⟨.inl ⟨rfl, rfl, rfl⟩, fun h => absurd rfl h⟩, Nat.zero_le _, fun h => absurd rfl h⟩
  · refine ⟨⟨some ⟨Y, 0, none⟩, bs.length, bs.length, Y⟩, fun _ => bs, rfl, rfl, sl_of_owns (hY.owns (Nat.zero_le _) (by unfold maxLen; omega)), ho, ⟨.inr ⟨rfl, rfl⟩, fun _ => ⟨hY, rfl⟩⟩, hl, fun _ => ?_⟩
    refine ⟨o.zf Y hB, fun e => ?_, fun e => ?_, fun e => ?_, fun e => ?_, Nat.le_trans o.tw.hb.size hB, hY.lt⟩
    · have := o.tw.h1.lt Y ((dft_files hf Y).1 e)
      omega
    · have := o.tw.h2.lt Y e
      omega
    · have := (o.hl.lt Y e).2
      omega
    · have := (o.hr.lt Y e).2
      omega

/-- The second one reads the same. -/
theorem Ow.readB (o : Ow w0 W d1 t1 D1 d2 t2 D2 g C lv m ls rv rs) {x : Ri} {C1 : Nat → List Int} (hi : Inh w0 W d1 t1 D1 d2 t2 D2 g lv rv x C1) (hd : DkT W' d2 t2 D') (hk : Kept (fun k => k = d2) W W') (hf : D'.files = D2.files) :
    Ow w0 W' d1 t1 D1 d2 t2 D' g C lv m ls rv rs ∧ Inh w0 W' d1 t1 D1 d2 t2 D' g lv rv x C1 := by
  refine ⟨o.right (o.tw.h2.goes hd hk hf), hi.rk.kept hk (fun h0 e => (hi.z h0).2.2.1 (.inl e)), hi.n, fun h0 => ?_⟩
  obtain ⟨z1, z2, z3, z4, z5, z6, z7⟩ := hi.z h0
  exact ⟨z1, z2, fun e => z3 ((dft_files hf _).1 e), z4, z5, z6, Nat.lt_of_lt_of_le z7 hk.size⟩

theorem rf_two (w : World) (t : TypeId) (v u : Value) (h1 : v.oneCell' = true) (h2 : u.oneCell' = true) : Rf (w.alloc (.cells #[v, u] t)) 1 (.slice (some ⟨w.heap.size, 0, none⟩) 2 2) 2 [v, u] := by
  have h : (w.alloc (.cells #[v, u] t)).ownsRow 0 t 1 (.slice (some ⟨w.heap.size, 0, none⟩) 2 2) 2 [v, u] := ⟨by simp, .inr ⟨w.heap.size, 2, _, rfl, Nat.zero_le _, hp_new w _, Nat.le_refl _, by decide, by simp, by simp⟩⟩
  exact rf_of_owns h (by intro y hy; simp at hy; rcases hy with rfl | rfl; exact h1; exact h2)

theorem rf_one (w : World) (t : TypeId) (v : Value) (h1 : v.oneCell' = true) : Rf (w.alloc (.cells #[v] t)) 1 (.slice (some ⟨w.heap.size, 0, none⟩) 1 1) 1 [v] := by
  have h : (w.alloc (.cells #[v] t)).ownsRow 0 t 1 (.slice (some ⟨w.heap.size, 0, none⟩) 1 1) 1 [v] := ⟨by simp, .inr ⟨w.heap.size, 1, _, rfl, Nat.zero_le _, hp_new w _, Nat.le_refl _, by decide, by simp, by simp⟩⟩
  exact rf_of_owns h (by intro u hu; simp at hu; subst hu; exact h1)

/-- Two headers laid; a block of another type beside it stays. -/
theorem Ow.headTwo {x y : Li} (o : Ow w0 W d1 t1 D1 d2 t2 D2 g C lv m (ls ++ [x] ++ [y]) rv rs) (hm : ls.length = m) {ao : Option Addr} {c : Nat} {ob : Obj}
    (hown : W'.ownsRow w0.heap.size 38 1 (.slice ao (m + 2) c) (m + 2) (((ls ++ [x] ++ [y]).take m).map Li.v ++ [x.v, y.v])) (hgr : (W.alloc ob).grownBy W' lv.ownBlock) (hob : (Value.slice ao (m + 2) c).ownBlock = lv.ownBlock ∨ (Value.slice ao (m + 2) c).ownBlock = some (W.alloc ob).heap.size)
    {xb : Nat} {cs : Array Value} (hx : W.heap[xb]? = some (.cells cs 32 (0, 0))) :
    Ow w0 W' d1 t1 D1 d2 t2 D2 g C (.slice ao (m + 2) c) (m + 2) (ls ++ [x] ++ [y]) rv rs ∧ W'.heap[xb]? = some (.cells cs 32 (0, 0)) := by
  have hk : Kept (fun q => lv.ownBlock = some q) W W' := ((Kept.refl _ W).alloc ob).grown hgr (fun _ _ e => e)
  have hd : ((ls ++ [x] ++ [y]).drop m).take 2 = [x, y] := by rw [← hm]; simp
  refine ⟨o.headL (k := 2) (by simp; omega) (by rw [hd]; exact hown) hgr hob, ?_⟩
  refine (hk.block xb (hp_lt hx) fun e => ?_).trans hx
  obtain ⟨c1, h1⟩ := owns_ty o.hl e
  rw [hx] at h1
  injection h1 with h1
  injection h1 with _ h1
  exact absurd h1 (by decide)

/-- Nothing kept yet. -/
theorem ow_start {w0 W : World} {d1 d2 : Nat} {t1 t2 : Wt} {D1 D2 : Dq} (tw : Two w0 W d1 t1 D1 d2 t2 D2) : Ow w0 W d1 t1 D1 d2 t2 D2 (fun _ => 0) (fun _ => []) (.slice none 0 0) 0 [] (.slice none 0 0) [] :=
  ⟨tw, fun _ _ => rfl, fun _ _ => rfl, fun _ _ => rfl, owns_nil _ _ _ _, Nat.le_refl _, fun _ _ => rfl, owns_nil _ _ _ _, fun _ _ => rfl, fun j x hx => by simp at hx, fun j x hx => by simp at hx⟩

theorem Tryz.info38h : (Tryz.prog.info? 38).map (fun i => (i.zero, i.size, i.bytes)) = some (some (.slice none 0 0), 1, 24) := by kernel_rfl
theorem Tryz.info27h : (Tryz.prog.info? 27).map (fun i => (i.zero, i.size, i.bytes)) = some (some (.slice none 0 0), 1, 24) := by kernel_rfl

/-- The cells of the step that is being done. -/
theorem step_cells {W W' : World} {xb : Nat} {c0 c1 c2 c3 c4 c5 c6 c7 c8 : Value} (h : W.heap[xb]? = some (.cells #[c0, c1, c2, c3, c4, c5, c6, c7, c8] 32 (0, 0))) (hb : Below W.heap.size W W') :
    W'.cell? ⟨xb, 0, none⟩ = some c0 ∧ W'.cell? ⟨xb, 1, none⟩ = some c1 ∧ W'.cell? ⟨xb, 2, none⟩ = some c2 ∧ W'.cell? ⟨xb, 3, none⟩ = some c3 ∧ W'.cell? ⟨xb, 4, none⟩ = some c4 ∧ W'.cell? ⟨xb, 5, none⟩ = some c5 ∧ W'.cell? ⟨xb, 6, none⟩ = some c6 ∧ W'.cell? ⟨xb, 7, none⟩ = some c7 ∧ W'.cell? ⟨xb, 8, none⟩ = some c8 := by
  have h2 := (hb.block xb (hp_lt h)).trans h
  refine ⟨?_, ?_, ?_, ?_, ?_, ?_, ?_, ?_, ?_⟩ <;> (rw [cell_of_row W' _ _ _ _ _ h2]; rfl)

end

end Go.Proofs.YtlmompdfombgeabGreat

namespace Go.Proofs.YtlmompdfombgeabGreat
open Go.RowKit Go.MapKept

theorem nb_sl2 {w : World} {B : Nat} {v : Value} {bs : List Int} (h : Nb w B v bs) (hl : bs.length ≤ maxLen) : (∃ a c, v = .slice a bs.length c) ∧ Sl w v bs := by
  rcases h with ⟨rfl, rfl⟩ | ⟨Y, rfl, hY, hB⟩
  · exact ⟨⟨none, 0, rfl⟩, sl_none _⟩
  · exact ⟨⟨_, _, rfl⟩, sl_of_owns (hY.owns (Nat.zero_le _) hl)⟩

theorem bytes_yes (a b : Value) (xs : List Int) (w : World) (ha : Sl w a xs) (hb : Sl w b xs) (hl : xs.length ≤ 1000000000) :
    Calls Tryz.prog 31 #[a, b] w fun x w' => x = .returned (.bool true) ∧ Below w.heap.size w w' := by
  have := bytes_any a b xs xs w ha hb hl
  rw [show decide (xs = xs) = true by simp] at this
  refine this.mono ?_
  rintro x w' ⟨h1, rfl⟩
  exact ⟨rfl, dn_below h1⟩

theorem look_bound {n : Nat} {D : Dq} (h : WD n D) (nm : ByteArray) : (((D.look nm).map fun f => f.row.1).getD []).length ≤ 4194304 := by
  cases hf : D.look nm with
  | none => simp
  | some f =>
    have h1 := h.peak (look_mem hf).1
    have h2 := row_le_peak f.safe f.cs
    simp [Fi.row]
    unfold Fi.peak at h1
    omega

theorem read_len {n : Nat} {D : Dq} (h : WD n D) (nm : ByteArray) : (readP D nm).1.length ≤ 4194304 := by
  unfold readP
  split
  · simp
  · split
    · simp
    · exact look_bound h nm

section
variable {w0 W W' : World} {d1 d2 : Nat} {t1 t2 : Wt} {D1 D2 D' : Dq} {g : Nat → Nat} {C : Nat → List Int} {lv rv : Value} {m : Nat} {ls : List Li} {rs : List Ri}

/-- The second one reads the same; the bytes in hand stay. -/
theorem Ow.readB2 (o : Ow w0 W d1 t1 D1 d2 t2 D2 g C lv m ls rv rs) {x : Ri} {C1 : Nat → List Int} (hi : Inh w0 W d1 t1 D1 d2 t2 D2 g lv rv x C1) {bs : List Int} (hs : Sl W (.slice x.ao x.n x.c) bs) (hd : DkT W' d2 t2 D') (hk : Kept (fun k => k = d2) W W') (hf : D'.files = D2.files) :
    Ow w0 W' d1 t1 D1 d2 t2 D' g C lv m ls rv rs ∧ Inh w0 W' d1 t1 D1 d2 t2 D' g lv rv x C1 ∧ Sl W' (.slice x.ao x.n x.c) bs := by
  obtain ⟨h1, h2⟩ := o.readB hi hd hk hf
  refine ⟨h1, h2, hs.kept hk fun q e1 e2 => ?_⟩
  rcases hi.rk.sh with ⟨e3, _⟩ | ⟨e3, _⟩
  · rw [e3] at e1; simp [Value.ownBlock] at e1
  · have hne : x.ao ≠ none := by rw [e3]; simp
    rw [e3] at e1
    simp [Value.ownBlock] at e1
    exact (hi.z hne).2.2.1 (.inl (e1.trans e2))

theorem Ow.addR' {ra : Option Addr} {k rc : Nat} (o : Ow w0 W d1 t1 D1 d2 t2 D2 g C lv m ls (.slice ra k rc) rs) (hk : rs.length = k) {x : Ri} {C1 : Nat → List Int} (hi : Inh w0 W d1 t1 D1 d2 t2 D2 g lv (.slice ra k rc) x C1)
    {ao : Option Addr} {c : Nat} {ob : Obj} (hown : W'.ownsRow w0.heap.size 27 1 (.slice ao (k + 1) c) (k + 1) (rs.map Ri.v ++ [x.v])) (hgr : (W.alloc ob).grownBy W' (Value.slice ra k rc).ownBlock) (hob : (Value.slice ao (k + 1) c).ownBlock = (Value.slice ra k rc).ownBlock ∨ (Value.slice ao (k + 1) c).ownBlock = some (W.alloc ob).heap.size) :
    ∃ g' C', Ow w0 W' d1 t1 D1 d2 t2 D2 g' C' lv m ls (.slice ao (k + 1) c) (rs ++ [x]) := by
  subst hk
  exact o.addR x hi.rk hi.n hi.z hown hgr hob

/-- The first i lists bear their marks. -/
def SpL (C : Nat → List Int) (ls : List Li) (i : Nat) : Prop := ∀ j x, j < i → ls[j]? = some x → ∀ e, e < x.n → C (x.Y e) = List.replicate (x.len e) ((j : Int) + 1)
/-- The first i rows bear theirs. -/
def SpR (C : Nat → List Int) (rs : List Ri) (i : Nat) : Prop := ∀ j x, j < i → rs[j]? = some x → x.ao ≠ none → C x.y = List.replicate x.n ((j : Int) + 150)

theorem Ow.spoilL (o : Ow w0 W d1 t1 D1 d2 t2 D2 g C lv m ls rv rs) {i : Nat} {x : Li} (hx : ls[i]? = some x) {C' : Nat → List Int} (s : SpI W W' x.h x.n x.Y x.len C ((i : Int) + 1) C' x.n 0) (hL : SpL C ls i) :
    Ow w0 W' d1 t1 D1 d2 t2 D2 g C' lv m ls rv rs ∧ SpL C' ls (i + 1) := by
  obtain ⟨h1, h2, h3⟩ := o.spoil hx s
  refine ⟨h1, fun j y hj hy e he => ?_⟩
  by_cases hji : j = i
  · subst hji
    rw [hx] at hy
    injection hy with hy
    subst hy
    exact h2 e he
  · rw [h3 _ (by have := ((o.li j y hy).2.2.2.2 _ (.inr ⟨e, he, rfl⟩)).1; omega)]
    exact hL j y (by omega) hy e he

theorem Ow.rowByte (o : Ow w0 W d1 t1 D1 d2 t2 D2 g C lv m ls rv rs) {i : Nat} {x : Ri} (hx : rs[i]? = some x) {p : Nat} (hp : p < x.n) (b : Int) {mm : Nat} (hL : SpL C ls mm) (hR : SpR C rs i) (hP : ∀ q, q < p → (C x.y)[q]? = some b) :
    x.ao = some ⟨x.y, 0, none⟩ ∧ (∃ y, W.cell? ⟨x.y, p, none⟩ = some (.int .u8 y)) ∧ (∀ a, W.frozen? ⟨x.y, a, none⟩ = false) ∧ ∃ C', Ow w0 (W.setCell ⟨x.y, p, none⟩ (.int .u8 b)) d1 t1 D1 d2 t2 D2 g C' lv m ls rv rs ∧ SpL C' ls mm ∧ SpR C' rs i ∧ ∀ q, q < p + 1 → (C' x.y)[q]? = some b := by
  obtain ⟨h1, h2, h3, h4⟩ := o.setR hx hp b
  have hne : x.ao ≠ none := by rw [h1]; simp
  obtain ⟨p1, p2, p3⟩ := o.ri i x hx
  have hg := (p3 hne).1
  have hlen := (p1.ow hne).2
  refine ⟨h1, h2, h3, _, h4, fun j y hj hy e he => ?_, fun j y hj hy hn => ?_, fun q hq => ?_⟩
  · rw [updC_ne _ _ (fun e2 => by have := ((o.li j y hy).2.2.2.2 _ (.inr ⟨e, he, rfl⟩)).1; rw [e2] at this; omega)]
    exact hL j y hj hy e he
  · rw [updC_ne _ _ (fun e2 => by have := ((o.ri j y hy).2.2 hn).1; rw [e2] at this; omega)]
    exact hR j y hj hy hn
  · rw [updC_self]
    by_cases e : q = p
    · subst e
      rw [List.getElem?_set_self (by omega)]
    · rw [List.getElem?_set_ne (fun e2 => e e2.symm)]
      exact hP q (by omega)

theorem Ow.rowEnd (o : Ow w0 W d1 t1 D1 d2 t2 D2 g C lv m ls rv rs) {i : Nat} {x : Ri} (hx : rs[i]? = some x) (hR : SpR C rs i) (hP : ∀ q, q < x.n → (C x.y)[q]? = some ((i : Int) + 150)) : SpR C rs (i + 1) := by
  intro j y hj hy hn
  by_cases e : j = i
  · subst e
    rw [hx] at hy
    injection hy with hy
    subst hy
    have hlen := ((o.ri j x hx).1.ow hn).2
    apply List.ext_getElem?
    intro q
    by_cases hq : q < x.n
    · rw [hP q hq]
      simp [hq]
    · rw [List.getElem?_eq_none (by omega), List.getElem?_eq_none (by simp; omega)]
  · exact hR j y (by omega) hy hn

/-- A full row that is added to. -/
theorem gr_full {W : World} {b : Nat} {bs : List Int} {n : Nat} (h : Own W b bs) (hn : bs.length = n) (hl : n ≤ 1000000000) : Gr W W.heap.size 5 1 (.slice (some ⟨b, 0, none⟩) n n) n (B8 bs) := by
  subst hn
  refine .inr ⟨b, rfl, h.lt, h.lt, ?_⟩
  exact rf_of_owns (h.owns (Nat.zero_le _) (by unfold maxLen; omega)) (by intro u hu; simp [B8] at hu; obtain ⟨_, _, rfl⟩ := hu; rfl)

/-- One more byte is added. -/
theorem gr_more {W wr w' : World} {ob : Obj} (hb : Below W.heap.size W wr) (hw : Wro W.heap.size 5 (wr.alloc ob) w') : Below W.heap.size W w' := by
  have h1 := bel_on hb (bel_al wr ob)
  exact h1.trans (hw.below h1.size)

theorem gr_below {W wr : World} {m n : Nat} {v : Value} {cs : List Value} (h : Gr W W.heap.size 5 m v n cs) (hb : Below W.heap.size W wr) : Gr wr W.heap.size 5 m v n cs := by
  rcases h with h | ⟨b, rfl, hb1, hl, hr⟩
  · exact .inl (ownsRow_kept h (Kept.ofBelow hb) (fun _ _ h => h))
  · exact .inr ⟨b, rfl, hb1, Nat.lt_of_lt_of_le hl hb.size, hr.below hb⟩

theorem gr_row {W : World} {ao : Option Addr} {n c y : Nat} {C : Nat → List Int} (h : Rk W ao n c y C) (hl : n ≤ 4194304) : ∃ cs, Gr W W.heap.size 5 1 (.slice ao n c) n cs := by
  rcases h.sh with ⟨rfl, rfl, rfl⟩ | ⟨rfl, rfl⟩
  · exact ⟨[], .inl (owns_nil _ _ _ _)⟩
  · obtain ⟨h1, h2⟩ := h.ow (by simp)
    exact ⟨_, gr_full h1 h2 (by omega)⟩

theorem row_byte {W : World} {ao : Option Addr} {n c y : Nat} {C : Nat → List Int} (h : Rk W ao n c y C) {b : Int} (hs : ao ≠ none → C y = List.replicate n b) {j : Nat} (hj : j < n) : ao = some ⟨y, 0, none⟩ ∧ W.cell? ⟨y, j, none⟩ = some (.int .u8 b) := by
  rcases h.sh with ⟨rfl, rfl, rfl⟩ | ⟨rfl, rfl⟩
  · omega
  · obtain ⟨h1, h2⟩ := h.ow (by simp)
    rw [hs (by simp)] at h1
    exact ⟨rfl, Own.cell h1 j b (by simp [hj])⟩

theorem u8_small {x : Int} (h0 : 0 ≤ x) (h1 : x < 256) : IntKind.u8.wrap x = x := by
  show (let m := x % 256; if false && decide (m ≥ 128) then m - 256 else m) = x
  simp
  omega

theorem Tryz.info5h : (Tryz.prog.info? 5).map (fun i => (i.zero, i.size, i.bytes)) = some (some (.int .u8 0), 1, 1) := by kernel_rfl

end

end Go.Proofs.YtlmompdfombgeabGreat

namespace Go.Proofs.YtlmompdfombgeabGreat
open Go.RowKit Go.MapKept

/-- Two disks that tell the same but for the power and the counts. -/
structure Alike (D D' : Dq) : Prop where
  fi : D'.files = D.files
  sn : D'.safeN = D.safeN
  tu : D'.turns = D.turns

theorem Alike.refl (D : Dq) : Alike D D := ⟨rfl, rfl, rfl⟩

theorem Alike.names {D D' : Dq} (h : Alike D D') : D'.names = D.names := by unfold Dq.names; rw [h.sn, h.tu]
theorem Alike.files {D D' : Dq} (h : Alike D D') : filesD D' = filesD D := by
  unfold filesD
  rw [h.names]
  congr 1
  funext m
  unfold rowN
  rw [h.fi]
theorem Alike.safe {D D' : Dq} (h : Alike D D') : safeD D' = safeD D := by
  unfold safeD
  rw [h.sn]
  congr 1
  funext m
  unfold safN
  rw [h.fi]
theorem Alike.held {D D' : Dq} (h : Alike D D') : heldD D' = heldD D := by unfold heldD; rw [h.fi]
theorem Alike.pend {D D' : Dq} (h : Alike D D') : pendD D' = pendD D := by unfold pendD; rw [h.fi]

/-- What a call that is neither a crash nor a plan may have done. -/
inductive Ref (kind e : Int) (D D' : Dq) : Prop where
  | still : e ≠ 0 → 1 ≤ kind → D' = D → Ref kind e D D'
  | rest : e = 0 → (kind < 1 ∨ 11 < kind) → D' = D → Ref kind e D D'
  | struck : 1 ≤ kind → kind ≤ 7 → e ≠ 0 → e ≠ 11 → D'.st = D.st + 1 → D'.rd = D.rd → D.off = false → D'.off = false → Alike D D' → Ref kind e D D'
  | out : 1 ≤ kind → kind ≤ 7 → e = 11 → D'.st = D.st + 1 → D'.rd = D.rd → D.off = false → D'.off = true → Alike D D' → Ref kind e D D'
  | done : 1 ≤ kind → kind ≤ 7 → e = 0 → D'.st = D.st + 1 → D'.rd = D.rd → D.off = false → D'.off = false → Ref kind e D D'
  | read : kind = 8 → e ≠ 11 → D'.st = D.st → D'.rd = D.rd + 1 → D.off = false → D'.off = false → Alike D D' → Ref kind e D D'
  | readOut : kind = 8 → e = 11 → D'.st = D.st → D'.rd = D.rd + 1 → D.off = false → D'.off = true → Alike D D' → Ref kind e D D'
  | hand : kind = 11 → e = 0 → D'.st = D.st → D'.rd = D.rd → D'.off = D.off → Ref kind e D D'

theorem fe_cases (n : Int) : fe n = 0 ∧ n ≠ 1 ∨ fe n ≠ 0 ∧ (fe n = 11 ∧ n = 1 ∨ fe n ≠ 11 ∧ n ≠ 1) := by
  unfold fe
  repeat' split
  all_goals omega

theorem ref_stroke (kind : Int) (h1 : 1 ≤ kind) (h7 : kind ≤ 7) (D : Dq) (e : Int) (k : Dq → Int × Dq) (he : e = 0 → D.off = false) (hk : e = 0 → (∀ D0, D0 = cntS D → ((k D0).1 = 0 ∧ (k D0).2.st = D0.st ∧ (k D0).2.rd = D0.rd ∧ (k D0).2.off = D0.off) ∨ ((k D0).1 ≠ 0 ∧ (k D0).1 ≠ 11 ∧ (k D0).2 = D0))) : Ref kind (strokeP D e k).1 D (strokeP D e k).2 := by
  unfold strokeP
  by_cases e0 : e = 0
  · rw [if_neg (by simpa using e0)]
    have ho := he e0
    rcases fe_cases (fo D.fs (D.st + 1)) with ⟨f0, f1⟩ | ⟨f0, f1⟩
    · rw [if_neg (by simpa using f0)]
      have hoff : (cntS D).off = false := by simp [cntS, f1]
      rcases hk e0 (cntS D) rfl with ⟨a, b, c, d⟩ | ⟨a, b, c⟩
      · exact .done h1 h7 a b c ho (by rw [d]; exact hoff)
      · refine .struck h1 h7 a b ?_ ?_ ho ?_ ?_
        · rw [c]; rfl
        · rw [c]; rfl
        · rw [c]; exact hoff
        · rw [c]; exact ⟨rfl, rfl, rfl⟩
    · rw [if_pos f0]
      rcases f1 with ⟨f1, f2⟩ | ⟨f1, f2⟩
      · exact .out h1 h7 f1 rfl rfl ho (by simp [cntS, f2]) ⟨rfl, rfl, rfl⟩
      · exact .struck h1 h7 f0 f1 rfl rfl ho (by simp [cntS, f2]) ⟨rfl, rfl, rfl⟩
  · rw [if_pos (by simpa using e0)]
    exact .still e0 h1 rfl

theorem does_ref (x : Sp) (D : Dq) (h9 : x.kind ≠ 9) (h10 : x.kind ≠ 10) : Ref x.kind (doesP x D).1 D (doesP x D).2 := by
  unfold doesP
  by_cases k1 : x.kind = 1
  · rw [if_pos k1]
    refine ref_stroke _ (by omega) (by omega) D _ _ pre1_off (fun _ D0 _ => ?_)
    unfold createK
    split
    · exact .inr ⟨by simp, by simp, rfl⟩
    · exact .inl ⟨rfl, rfl, rfl, rfl⟩
  rw [if_neg k1]
  by_cases k2 : x.kind = 2
  · rw [if_pos k2]
    refine ref_stroke _ (by omega) (by omega) D _ _ pre1_off (fun _ D0 _ => ?_)
    unfold appK
    split
    · split
      · exact .inr ⟨by simp, by simp, rfl⟩
      · split
        · exact .inl ⟨rfl, rfl, rfl, rfl⟩
        · exact .inl ⟨rfl, rfl, rfl, rfl⟩
    · exact .inl ⟨rfl, rfl, rfl, rfl⟩
  rw [if_neg k2]
  by_cases k3 : x.kind = 3
  · rw [if_pos k3]
    refine ref_stroke _ (by omega) (by omega) D _ _ pre1_off (fun _ D0 _ => .inl ?_)
    unfold cutK
    dsimp only
    repeat' split
    all_goals exact ⟨rfl, rfl, rfl, rfl⟩
  rw [if_neg k3]
  by_cases k4 : x.kind = 4
  · rw [if_pos k4]
    refine ref_stroke _ (by omega) (by omega) D _ _ pre1_off (fun _ D0 _ => .inl ?_)
    unfold syncK
    dsimp only
    repeat' split
    all_goals exact ⟨rfl, rfl, rfl, rfl⟩
  rw [if_neg k4]
  by_cases k5 : x.kind = 5
  · rw [if_pos k5]
    exact ref_stroke _ (by omega) (by omega) D _ _ pre0_off (fun _ D0 _ => .inl ⟨rfl, rfl, rfl, rfl⟩)
  rw [if_neg k5]
  by_cases k6 : x.kind = 6
  · rw [if_pos k6]
    refine ref_stroke _ (by omega) (by omega) D _ _ pre2_off (fun _ D0 _ => .inl ?_)
    unfold renK
    dsimp only
    repeat' split
    all_goals exact ⟨rfl, rfl, rfl, rfl⟩
  rw [if_neg k6]
  by_cases k7 : x.kind = 7
  · rw [if_pos k7]
    exact ref_stroke _ (by omega) (by omega) D _ _ pre1_off (fun _ D0 _ => .inl ⟨rfl, rfl, rfl, rfl⟩)
  rw [if_neg k7]
  by_cases k8 : x.kind = 8
  · rw [if_pos k8]
    unfold readP
    by_cases e0 : pre1 D x.name false 0 = 0
    · rw [if_neg (by simpa using e0)]
      have ho := pre1_off e0
      rcases fe_cases (fo D.fr (D.rd + 1)) with ⟨f0, f1⟩ | ⟨f0, f1⟩
      · rw [if_neg (by simpa using f0)]
        exact .read k8 (by simp) rfl rfl ho (by simp [cntR, f1]) ⟨rfl, rfl, rfl⟩
      · rw [if_pos f0]
        rcases f1 with ⟨f1, f2⟩ | ⟨f1, f2⟩
        · exact .readOut k8 f1 rfl rfl ho (by simp [cntR, f2]) ⟨rfl, rfl, rfl⟩
        · exact .read k8 f1 rfl rfl ho (by simp [cntR, f2]) ⟨rfl, rfl, rfl⟩
    · rw [if_pos (by simpa using e0)]
      exact .still e0 (by omega) rfl
  rw [if_neg k8, if_neg h9, if_neg h10]
  by_cases k11 : x.kind = 11
  · rw [if_pos k11]
    unfold handP
    repeat' split
    · exact .still (by simp) (by omega) rfl
    · exact .still (by simp) (by omega) rfl
    · exact .still (by simp) (by omega) rfl
    · exact .hand k11 rfl rfl rfl rfl
  · rw [if_neg k11]
    exact .rest rfl (by omega) rfl

end Go.Proofs.YtlmompdfombgeabGreat

namespace Go.Proofs.YtlmompdfombgeabGreat
open Go.RowKit Go.MapKept

set_option maxRecDepth 100000 in
set_option maxHeartbeats 800000 in
theorem ints_same (a b : Value) (ls : List Int) (w : World) (ha : Ln w a ls) (hb : Ln w b ls) (hl : ls.length ≤ 1000000) :
    Calls Tryz.prog 65 #[a, b] w fun x w' => x = .returned (.bool true) ∧ DN w w' := by
  obtain ⟨ao, acap, rfl, hac, -⟩ := ha.shape
  obtain ⟨bo, bcap, rfl, hbc, -⟩ := hb.shape
  have HA := hid ha
  have HB := hid hb
  clear ha hb
  go_enter Tryz.func65, Tryz.ntmps65
  go_wp2
  go_loopw [5] (fun i wr => ∃ (k : Nat), k ≤ ls.length ∧ i = .int .i64 k ∧ DN w wr) (fun i _ => ls.length - (intOf i).toNat)
  case atStart => exact ⟨0, Nat.zero_le _, rfl, DN.refl w⟩
  case round =>
    obtain ⟨k, hk, rfl, hdn⟩ := hrel
    by_cases hlt : k < ls.length
    · obtain ⟨ab, aoff, cap1, e, -, -, haj⟩ := Rf.elem (m := 1) (f := fun x : Int => [Value.int .i64 x]) (fun _ => rfl) (by omega) HA.out k hlt
      injection e with e1 e2 e3
      subst e1 e3
      clear e2
      obtain ⟨bb, boff, cap2, e, -, -, hbj⟩ := Rf.elem (m := 1) (f := fun x : Int => [Value.int .i64 x]) (fun _ => rfl) (by omega) HB.out k hlt
      injection e with e1 e2 e3
      subst e1 e3
      clear e2
      obtain ⟨x, hx⟩ : ∃ x, x = ls[k] := ⟨_, rfl⟩
      rw [← hx] at haj hbj
      have ca : wr.cell? ⟨ab, aoff + k, none⟩ = some (.int .i64 x) := (hdn.cell _).trans (by have := haj 0 _ rfl; simpa using this)
      have cb : wr.cell? ⟨bb, boff + k, none⟩ = some (.int .i64 x) := (hdn.cell _).trans (by have := hbj 0 _ rfl; simpa using this)
      have i2 : (k : Int) < (ls.length : Int) := by omega
      clear haj hbj hx
      go_wp2
      go_quiet (fail)
      go_wp2
      go_roundw
      case rel => first | exact ⟨k + 1, by omega, by go_num, hdn.more _⟩ | exact ⟨k + 1, by omega, by go_num, hdn⟩ | ((repeat apply Exists.intro); exact ⟨⟨k + 1, by omega, by go_num, hdn.more _⟩, rfl⟩)
      case measure => simp [intOf]; omega
    · have i2 : ¬ (k : Int) < (ls.length : Int) := by omega
      go_wp2
      go_ret
      exact ⟨rfl, hdn⟩

end Go.Proofs.YtlmompdfombgeabGreat
