import Derived.Test.YtdnlfacfleemeaaK17
import Derived.RegionDies
import Derived.Test.YtdnlfacfleemeaaK16
namespace Go.Proofs.Ytdnlfacfleemeaa
open Go.RowKit Go.Lib

theorem cs_off {w : World} {b i j : Nat} (h : i ≠ j) (v : Value) : (w.setCell ⟨b, i, none⟩ v).cell? ⟨b, j, none⟩ = w.cell? ⟨b, j, none⟩ := World.cell?_setCell_other w _ _ v (fun e => h (by injection e))
theorem cs_blk {w : World} {p q : Nat} (h : p ≠ q) (i j : Nat) (v : Value) : (w.setCell ⟨p, i, none⟩ v).cell? ⟨q, j, none⟩ = w.cell? ⟨q, j, none⟩ := World.cell?_setCell_other w _ _ v (fun e => h (by injection e))
theorem dw_cell (W : World) (a : Addr) : W.drew.cell? a = W.cell? a := rfl

def vCells : Array Value := #[.int .i64 0, .int .i64 0, .string emp]

theorem Try.info50 : (Try.prog.info? 50).map (fun i => (i.zero.map Value.cells, i.size, i.bytes)) = some (some vCells, 3, 32) := by kernel_rfl

theorem vmade_at (n j : Nat) (m : Nat) (hj : j < n) (hm : m < 3) : (madeCells vCells (n * 3))[j * 3 + m]? = vCells[m]? := by
  have h1 : j * 3 + m < n * 3 := by omega
  have h2 : (j * 3 + m) % 3 = m := by omega
  unfold madeCells
  rw [Array.getElem?_map, Array.getElem?_range, if_pos h1, Option.map_some, show vCells.size = 3 from rfl, h2]
  rcases (show m = 0 ∨ m = 1 ∨ m = 2 by omega) with rfl | rfl | rfl <;> rfl

theorem make50 (n : Nat) (hn : n ≤ 64) (w : World) : (Instr.makeSlice 28 (.int .i64 n) (.int .i64 n)).run Try.prog w = .ok (.slice (some ⟨w.heap.size, 0, none⟩) n n) (w.alloc (.cells (madeCells vCells (n * 3)) 50)) := by
  have h := Try.info50
  cases hi : Try.prog.info? 50 with
  | none => rw [hi] at h; simp at h
  | some i =>
    rw [hi] at h
    simp only [Option.map_some, Option.some.injEq, Prod.mk.injEq] at h
    obtain ⟨h1, h2, h3⟩ := h
    cases hz : i.zero with
    | none => rw [hz] at h1; simp at h1
    | some z =>
      rw [hz, Option.map_some, Option.some.injEq] at h1
      have := run_make (P := Try.prog) w 28 50 i z Try.underlying28 hi hz .i64 .i64 (n : Int) (n : Int) (by omega) (Int.le_refl _) (by rw [h3]; omega) (by omega)
      rw [h1, h2] at this
      simpa using this

theorem made_vd (w : World) (n j : Nat) (hj : j < n) : VdAt (w.alloc (.cells (madeCells vCells (n * 3)) 50)) w.heap.size (j * 3) ⟨0, 0, emp⟩ := by
  have hb := heap_alloc_new w (.cells (madeCells vCells (n * 3)) 50)
  have h : ∀ m, m < 3 → (w.alloc (.cells (madeCells vCells (n * 3)) 50)).cell? ⟨w.heap.size, j * 3 + m, none⟩ = vCells[m]? := by
    intro m hm
    rw [cell_of_row _ _ _ _ _ _ hb, vmade_at n j m hj hm]
  exact ⟨h 0 (by decide), h 1 (by decide), h 2 (by decide)⟩

/-- While a call's values are taken. -/
structure Tv (w W : World) (p : Nat) (g : Option Nat) (bs : List Int) (a q vb N : Nat) (nm : ByteArray) (ys : List Vd) : Prop where
  st : St w W p bs.length g bs a q (tz 2 nm (.slice (some ⟨vb, 0, none⟩) N N))
  bk : ∃ cs, W.heap[vb]? = some (.cells cs 50 (0, 0))
  c1 : ∀ (j : Nat) (v : Vd), ys[j]? = some v → VdAt W vb (j * 3) v
  c2 : ∀ j, ys.length ≤ j → j < N → VdAt W vb (j * 3) ⟨0, 0, emp⟩
  lv : w.heap.size + 1 < vb
  ne : vb ≠ q

theorem Tv.read {w W W' : World} {p : Nat} {g : Option Nat} {bs : List Int} {a a2 q vb N : Nat} {nm : ByteArray} {ys : List Vd} (h : Tv w W p g bs a q vb N nm ys) (hp : p < w.heap.size) (hk : Kept (fun k => k = p) W W') (hr : Rd W' p g bs a2 0) : Tv w W' p g bs a2 q vb N nm ys := by
  obtain ⟨cs, hc⟩ := h.bk
  have hl := h.lv
  have hs := hk.block _ (lt_of hc) (by omega)
  exact ⟨h.st.read hp hk hr, ⟨cs, hs.trans hc⟩, fun j v hv => (h.c1 j v hv).same hs, fun j h1 h2 => (h.c2 j h1 h2).same hs, h.lv, h.ne⟩

theorem Tv.below {w W W' : World} {p : Nat} {g : Option Nat} {bs : List Int} {a q vb N : Nat} {nm : ByteArray} {ys : List Vd} (h : Tv w W p g bs a q vb N nm ys) (hb : Below W.heap.size W W') : Tv w W' p g bs a q vb N nm ys := by
  obtain ⟨cs, hc⟩ := h.bk
  have hs := hb.block _ (lt_of hc)
  exact ⟨h.st.below hb, ⟨cs, hs.trans hc⟩, fun j v hv => (h.c1 j v hv).same hs, fun j h1 h2 => (h.c2 j h1 h2).same hs, h.lv, h.ne⟩

theorem below_drew (w : World) : Below w.heap.size w w.drew := ⟨rfl, rfl, rfl, Nat.le_refl _, fun _ _ => rfl⟩

abbrev put3 (w : World) (b o : Nat) (x y z : Value) : World := ((w.setCell ⟨b, o, none⟩ x).setCell ⟨b, o + 1, none⟩ y).setCell ⟨b, o + 2, none⟩ z

theorem kept3 (w : World) (b o : Nat) (x y z : Value) : Kept (fun k => k = b) w (put3 w b o x y z) :=
  (((Kept.refl (fun k => k = b) w).setCell (p := ⟨b, o, none⟩) (fun _ => rfl) _).setCell (p := ⟨b, o + 1, none⟩) (fun _ => rfl) _).setCell (p := ⟨b, o + 2, none⟩) (fun _ => rfl) _

theorem blk_set {W : World} {b o : Nat} {v : Value} {t : TypeId} (h : ∃ cs, W.heap[b]? = some (.cells cs t (0, 0))) : ∃ cs, (W.setCell ⟨b, o, none⟩ v).heap[b]? = some (.cells cs t (0, 0)) := by
  obtain ⟨cs, h⟩ := h
  simp [World.setCell, Array.getElem?_modify, h]

theorem put3_at {W : World} {b o : Nat} {u : Vd} (h : VdAt W b o u) (v : Vd) : VdAt (put3 W b o (.int .i64 v.k) (.int .i64 v.i) (.string v.t)) b o v := by
  refine ⟨?_, ?_, ?_⟩
  · rw [cs_off (by omega), cs_off (by omega)]; exact cs_same h.c0
  · rw [cs_off (by omega)]; exact cs_same ((cs_off (by omega) _).trans h.c1)
  · exact cs_same ((cs_off (by omega) _).trans ((cs_off (by omega) _).trans h.c2))

theorem put3_off {W : World} {b o o' : Nat} {u : Vd} (h : VdAt W b o' u) (x y z : Value) (hne : o' + 3 ≤ o ∨ o + 3 ≤ o') : VdAt (put3 W b o x y z) b o' u := by
  refine ⟨?_, ?_, ?_⟩
  · rw [cs_off (by omega), cs_off (by omega), cs_off (by omega)]; exact h.c0
  · rw [cs_off (by omega), cs_off (by omega), cs_off (by omega)]; exact h.c1
  · rw [cs_off (by omega), cs_off (by omega), cs_off (by omega)]; exact h.c2

theorem Tv.set {w W : World} {p : Nat} {g : Option Nat} {bs : List Int} {a q vb N : Nat} {nm : ByteArray} {ys : List Vd} (h : Tv w W p g bs a q vb N nm ys) (hp : p < w.heap.size) (hg : ∀ k, g = some k → k < w.heap.size) (hm : ys.length < N) (v : Vd) :
    Tv w (put3 W vb (ys.length * 3) (.int .i64 v.k) (.int .i64 v.i) (.string v.t)) p g bs a q vb N nm (ys ++ [v]) := by
  have hk := kept3 W vb (ys.length * 3) (.int .i64 v.k) (.int .i64 v.i) (.string v.t)
  have hlv := h.lv
  have hne := h.ne
  have hs := h.st
  refine ⟨⟨⟨(hk.block _ (lt_of hs.sb.r1) (by omega)).trans hs.sb.r1, (hk.block _ (lt_of hs.sb.r2) (by omega)).trans hs.sb.r2, hs.sb.kp.trans hk (fun i hi e => by omega), hs.sb.rd.kept hk (by omega) (fun k hk2 e => by have := hg k hk2; omega)⟩, (hk.block _ (lt_of hs.r3) (fun e => hne e.symm)).trans hs.r3, hs.lq⟩, ?_, ?_, ?_, hlv, hne⟩
  · exact blk_set (blk_set (blk_set h.bk))
  · intro j u hu
    by_cases hj : j < ys.length
    · rw [List.getElem?_append_left hj] at hu
      exact put3_off (h.c1 j u hu) _ _ _ (by omega)
    · have hj2 : j = ys.length := by
        have := (List.getElem?_eq_some_iff.1 hu).1
        simp at this
        omega
      subst hj2
      simp at hu
      subst hu
      exact put3_at (h.c2 ys.length (Nat.le_refl _) hm) v
  · intro j h1 h2
    simp at h1
    exact put3_off (h.c2 j (by omega) h2) _ _ _ (by omega)

def preV (ys : List Vd) : Except Int (List Vd × Nat) → Except Int (List Vd × Nat)
  | .error E => .error E
  | .ok (xs, a) => .ok (ys ++ xs, a)

theorem preV_ok (bs : List Int) (most : Int) (n a : Nat) (ys : List Vd) (d : Int × Int × List Int) (a2 : Nat) (h : tkVal bs most a = .ok (d, a2)) : preV ys (tkVs bs most (n + 1) a) = preV (ys ++ [⟨d.1, d.2.1, mkStr d.2.2⟩]) (tkVs bs most n a2) := by
  rw [tkVs, h]
  dsimp only
  cases tkVs bs most n a2 with
  | error E => rfl
  | ok r => simp [preV]

theorem preV_no (bs : List Int) (most : Int) (n a : Nat) (ys : List Vd) (E : Int) (h : tkVal bs most a = .error E) : preV ys (tkVs bs most (n + 1) a) = .error E := by
  rw [tkVs, h]
  rfl

/-- A call behind its count. -/
def calN (nm : List Int) : Except Int (List Vd × Nat) → Except Int (Txd × Nat)
  | .error E => .error E
  | .ok (vs, a3) => .ok (⟨2, emp, 0, [], mkStr nm, vs⟩, a3)

theorem name_set {W : World} {q : Nat} {k : Int} {nm : ByteArray} {S2 : Value} (h : W.heap[q]? = some (tz k nm S2)) (s : ByteArray) :
    (W.setCell ⟨q, 4, none⟩ (.string s)).heap[q]? = some (tz k s S2) ∧ Kept (fun k => k = q) W (W.setCell ⟨q, 4, none⟩ (.string s)) :=
  ⟨by simp [World.setCell, Array.getElem?_modify, h], (Kept.refl (fun k => k = q) W).setCell (p := ⟨q, 4, none⟩) (fun _ => rfl) _⟩

theorem args_set {W : World} {q : Nat} {k : Int} {nm : ByteArray} {S2 : Value} (h : W.heap[q]? = some (tz k nm S2)) (S : Value) :
    (W.setCell ⟨q, 5, none⟩ S).heap[q]? = some (tz k nm S) ∧ Kept (fun k => k = q) W (W.setCell ⟨q, 5, none⟩ S) :=
  ⟨by simp [World.setCell, Array.getElem?_modify, h], (Kept.refl (fun k => k = q) W).setCell (p := ⟨q, 5, none⟩) (fun _ => rfl) _⟩

theorem tv_start {w W : World} {p : Nat} {g : Option Nat} {bs : List Int} {a q N : Nat} {nm : ByteArray} {S : Value} (h : St w W p bs.length g bs a q (tz 2 nm S)) (hp : p < w.heap.size) (hg : ∀ k, g = some k → k < w.heap.size) :
    Tv w ((W.setCell ⟨q, 5, none⟩ (.slice (some ⟨W.heap.size, 0, none⟩) N N)).alloc (.cells (madeCells vCells (N * 3)) 50)) p g bs a q W.heap.size N nm [] := by
  obtain ⟨e1, e2⟩ := args_set h.r3 (.slice (some ⟨W.heap.size, 0, none⟩) N N)
  have h2 := h.put hp hg e2 e1
  have hz : (W.setCell ⟨q, 5, none⟩ (.slice (some ⟨W.heap.size, 0, none⟩) N N)).heap.size = W.heap.size := by simp [World.setCell]
  have hq := lt_of h.r3
  generalize W.setCell ⟨q, 5, none⟩ (.slice (some ⟨W.heap.size, 0, none⟩) N N) = V at *
  have hb := heap_alloc_new V (.cells (madeCells vCells (N * 3)) 50)
  rw [hz] at hb
  have := h.lq
  exact ⟨h2.below (below1 V _), ⟨_, hb⟩, fun j v hv => by simp at hv, fun j _ h4 => by have := made_vd V N j h4; rwa [hz] at this, by omega, by omega⟩

end Go.Proofs.Ytdnlfacfleemeaa

namespace Go.Proofs.Ytdnlfacfleemeaa
open Go.RowKit Go.Lib

theorem St.fin2 {w W : World} {p : Nat} {g : Option Nat} {bs : List Int} {a q vb N : Nat} {nm : ByteArray} {ys : List Vd} (h : Tv w W p g bs a q vb N nm ys) (hN : ys.length = N) (hp : p < w.heap.size) (hg : ∀ k, g = some k → k < w.heap.size) :
    (put6 W (w.heap.size + 1) (.int .i64 2) (.string emp) (.int .i64 0) (.slice none 0 0) (.string nm) (.slice (some ⟨vb, 0, none⟩) N N)).heap[w.heap.size + 1]? = some (.cells #[.int .i64 2, .string emp, .int .i64 0, .slice none 0 0, .string nm, .slice (some ⟨vb, 0, none⟩) N N] 30 (0, 0)) ∧
    TXP p g bs w (.ok (⟨2, emp, 0, [], nm, ys⟩, a)) (.returned (.agg #[.int .i64 2, .string emp, .int .i64 0, .slice none 0 0, .string nm, .slice (some ⟨vb, 0, none⟩) N N])) (put6 W (w.heap.size + 1) (.int .i64 2) (.string emp) (.int .i64 0) (.slice none 0 0) (.string nm) (.slice (some ⟨vb, 0, none⟩) N N)) := by
  obtain ⟨f1, f2, f3, f4⟩ := h.st.fin hp hg (.int .i64 2) (.string emp) (.int .i64 0) (.slice none 0 0) (.string nm) (.slice (some ⟨vb, 0, none⟩) N N)
  refine ⟨f1, f2, _, _, rfl, ⟨none, 0, rfl, Nat.le_refl _, fun h => absurd rfl h⟩, ?_, f3⟩
  refine VsAt.mono (B := w.heap.size + 2) (VsAt.same (w := W) ?_ f4) (by omega)
  have := h.lv
  subst hN
  exact ⟨_, _, rfl, Nat.le_refl _, fun _ => ⟨vb, 0, rfl, by omega, fun j v hv => by rw [Nat.zero_add]; exact h.c1 j v hv⟩⟩

theorem tkCalN_eq (bs nm : List Int) (a : Nat) : tkCalN bs nm a = if (takeZ 1 0 bs a 0).2.2 = 0 then (if (takeZ 1 0 bs a 0).1.1 ≤ 16 then calN nm (tkVs bs bs.length (takeZ 1 0 bs a 0).1.1.toNat (takeZ 1 0 bs a 0).2.1) else .error 4) else .error (takeZ 1 0 bs a 0).2.2 := by
  unfold tkCalN
  cases tkVs bs bs.length (takeZ 1 0 bs a 0).1.1.toNat (takeZ 1 0 bs a 0).2.1 with
  | error E => rfl
  | ok r => rfl

set_option maxRecDepth 100000 in
set_option maxHeartbeats 8000000 in
theorem txn_call (p : Nat) (g : Option Nat) (bs : List Int) (a : Nat) (w : World) (h : Rd w p g bs a 0) (hg : ∀ k, g = some k → k < w.heap.size) (hE : (takeZ 0 1 bs a 0).2.2 = 0) (hk1 : (takeZ 0 1 bs a 0).1.1 = 2) :
    Calls Try.prog 36 #[sv p bs.length] w (TXP p g bs w (tkCal bs (takeZ 0 1 bs a 0).2.1)) := by
  have HR := hid (skind_any p bs.length g bs a ((w.alloc (so p bs.length)).alloc (tz 0 emp (.slice none 0 0))) (h.below (below2 w _ _)))
  have hbl : bs.length ≤ 1000000000 := by obtain ⟨_, _, _, _, _, _, _, h⟩ := h; exact h
  have hoct := h.oct
  unfold rdX at HR
  rw [if_pos hE] at HR
  unfold SP at HR
  dsimp only at HR
  rw [hk1] at HR
  generalize (takeZ 0 1 bs a 0).2.1 = a2 at *
  have HT := hid (fun W (hr : Rd W p g bs a2 0) => stext_any p bs.length 32 g bs a2 W hr (by decide) (by decide))
  unfold rdX at HT
  unfold tkCal
  obtain ⟨⟨⟨u, t⟩, a3, e3⟩, ht⟩ : ∃ t, takeZ 3 32 bs a2 0 = t := ⟨_, rfl⟩
  rw [ht] at HT ⊢
  dsimp only at HT ⊢
  have HH := hid h
  have HGP := hid (And.intro h.plt hg)
  clear h hE hk1 ht hg
  by_cases he : e3 = 0
  · subst he
    rw [if_pos rfl] at HT ⊢
    unfold SP at HT
    dsimp only at HT
    have HC := hid (fun W (hr : Rd W p g bs a3 0) => scount_any p bs.length 16 4 g bs a3 W hr)
    unfold cntX at HC
    rw [tkCalN_eq]
    have bd := takeZ_bd 1 0 bs a3 0 hoct
    obtain ⟨⟨⟨u4, t4⟩, a4, e4⟩, ht4⟩ : ∃ t, takeZ 1 0 bs a3 0 = t := ⟨_, rfl⟩
    rw [ht4] at HC bd ⊢
    dsimp only at HC bd ⊢
    have hu0 : 0 ≤ u4 := bd.1
    clear bd ht4 hoct
    by_cases he4 : e4 = 0
    · subst he4
      rw [if_pos rfl] at HC ⊢
      by_cases hm : u4 ≤ 16
      · rw [if_pos hm] at HC ⊢
        unfold SP at HC
        dsimp only at HC
        obtain ⟨N, rfl⟩ : ∃ N : Nat, u4 = N := ⟨u4.toNat, by omega⟩
        have hN : N ≤ 16 := by omega
        rw [Int.toNat_natCast]
        obtain ⟨Z, hZ⟩ : ∃ Z, Z = calN t (tkVs bs bs.length N a4) := ⟨_, rfl⟩
        have HZ := hid hZ
        rw [← hZ]
        clear hZ hm hu0
        go_enter Try.func36, Try.ntmps36
        go_upto_region 9 with (first
          | (go_at_call 48
             refine HR.out.mono ?_
             rintro e w1 ⟨h1, rfl, h2⟩
             have H1 := hid (st_start (o := tz 2 emp (.slice none 0 0)) HH.out h1 h2)
             obtain ⟨p0, p1, -⟩ := vfacts2 H1.out.sb.r1
             clear h1 h2)
          | (go_at_call 50
             refine (HT.out _ H1.out.sb.rd).mono ?_
             rintro e w2 ⟨h3, rfl, h4⟩
             have H2 := hid (H1.out.read HGP.out.1 h3 h4)
             obtain ⟨q0, q1, q2, q3, q4, q5, qz⟩ := vfacts6 H2.out.r3
             obtain ⟨p0, p1, -⟩ := vfacts2 H2.out.sb.r1
             have hq1 := H2.out.lq
             have H3 := hid (H2.out.put HGP.out.1 HGP.out.2 (name_set H2.out.r3 (mkStr t)).2 (name_set H2.out.r3 (mkStr t)).1)
             clear h3 h4)
          | (go_at_call 35
             refine (HC.out _ H3.out.sb.rd).mono ?_
             rintro e w3 ⟨h5, rfl, h6⟩
             have H4 := hid (H3.out.read HGP.out.1 h5 h6)
             have hmk := make50 N (by omega) w3
             have H5 := hid (tv_start (N := N) H4.out HGP.out.1 HGP.out.2)
             obtain ⟨q0, q1, q2, q3, q4, q5, qz⟩ := vfacts6 (H4.out.below (below1 w3 (.cells (madeCells vCells (N * 3)) 50))).r3
             have hq2 := lt_of H4.out.r3
             clear h5 h6))
        refine cutG (fun W => Tv w W p g bs a4 w1.heap.size w3.heap.size N (mkStr t) []) H5.out ?_
        intro W0 H6
        have H6 := hid H6
        obtain ⟨q, hq⟩ : ∃ q, q = w1.heap.size := ⟨_, rfl⟩
        obtain ⟨vb, hvb⟩ : ∃ vb, vb = w3.heap.size := ⟨_, rfl⟩
        rw [← hq, ← hvb] at H6
        rw [← hq]
        clear H1 H2 H3 H4 H5 q0 q1 q2 q3 q4 q5 qz hq1 hq2 hmk p0 p1
        obtain ⟨q0, q1, q2, q3, q4, q5, qz⟩ := vfacts6 H6.out.st.r3
        clear hq hvb
        go_wp2
        go_loopw [29] (fun ix wr => ∃ (m : Nat) (ys : List Vd) (b : Nat), m ≤ N ∧ ix = .int .i64 m ∧ ys.length = m ∧ Hid (Tv w wr p g bs b q vb N (mkStr t) ys) ∧ Hid (preV ys (tkVs bs (bs.length : Int) (N - m) b) = tkVs bs (bs.length : Int) N a4)) (fun ix _ => N - (intOf ix).toNat)
        case atStart =>
          refine ⟨0, [], a4, Nat.zero_le _, rfl, rfl, H6, hid ?_⟩
          rw [Nat.sub_zero]
          cases tkVs bs (bs.length : Int) N a4 with
          | error E => rfl
          | ok r => rfl
        case round =>
          clear H6 q0 q1 q2 q3 q4 q5 qz
          obtain ⟨m, ys, b, hm, rfl, hys, hT, hK⟩ := hrel
          obtain ⟨q0, q1, q2, q3, q4, q5, qz⟩ := vfacts6 hT.out.st.r3
          obtain ⟨p0, p1, pz⟩ := vfacts2 hT.out.st.sb.r1
          by_cases hlt : m < N
          · have hlt' : (m : Int) < (N : Int) := by omega
            have HV := hid (fun W (hW : Tv w W p g bs b q vb N (mkStr t) ys) => svalue_any p bs.length g bs b W hW.st.sb.rd (fun k hk => by have := HGP.out.2 k hk; have := hW.st.sb.kp.size; omega) (by omega) (by omega))
            unfold valX at HV
            have hsub : N - m = (N - (m + 1)) + 1 := by omega
            rw [hsub] at hK
            clear hsub
            cases hv : tkVal bs (bs.length : Int) b with
            | error E =>
              rw [hv] at HV
              unfold SP at HV
              dsimp only at HV
              have hk2 := hK.out
              rw [preV_no bs _ _ _ _ E hv] at hk2
              have HK2 := hid hk2
              clear hk2 hK hv
              go_upto_region 12 with fail
              go_region_dies
              all_goals (
                refine (HV.out _ (hT.out.below (below_drew wr))).mono ?_
                rintro e w7 ⟨h7, rfl⟩
                refine ⟨rfl, ?_⟩
                rw [HZ.out, ← HK2.out]
                exact ⟨(hT.out.below (below_drew wr)).st.sb.kp.trans h7 (fun _ _ h => h), rfl⟩)
            | ok r =>
              obtain ⟨d, b2⟩ := r
              rw [hv] at HV
              unfold SP at HV
              dsimp only at HV
              have hk2 := hK.out
              rw [preV_ok bs _ _ _ _ d b2 hv] at hk2
              have HK2 := hid hk2
              clear hk2 hK hv
              go_upto_region 12 with fail
              have nq := hT.out.ne
              have ls := hT.out.lv
              have lq := hT.out.st.lq
              have ns : vb ≠ w.heap.size := by omega
              go_region_held3 (fun wx => wx.cell? ⟨q, 5, none⟩ = some (.slice (some ⟨vb, 0, none⟩) N N) ∧ wx.cell? ⟨w.heap.size, 0, none⟩ = some (.pointer (some ⟨p, 0, none⟩)) ∧ wx.cell? ⟨w.heap.size, 1, none⟩ = some (.int .i64 bs.length)) (go_keep) (first
                | (refine (HV.out _ (hT.out.below (below_drew _))).mono ?_
                   rintro e w7 ⟨h7, rfl, h8⟩
                   have H7 := hid ((hT.out.below (below_drew wr)).read HGP.out.1 h7 h8)
                   obtain ⟨q0, q1, q2, q3, q4, q5, qz⟩ := vfacts6 H7.out.st.r3
                   obtain ⟨p0, p1, pz⟩ := vfacts2 H7.out.st.sb.r1
                   obtain ⟨v0, v1, v2⟩ := H7.out.c2 m (by omega) hlt
                   have vz : ∀ o, w7.frozen? ⟨vb, o, none⟩ = false := fun o => by obtain ⟨cs, hcs⟩ := H7.out.bk; simp [World.frozen?, hcs]
                   clear h7 h8))
              have hml : m = ys.length := hys.symm
              have HF := hid (H7.out.set HGP.out.1 HGP.out.2 (by omega) ⟨d.1, d.2.1, mkStr d.2.2⟩)
              rw [hys] at HF
              clear hml
              go_wp2
              go_roundw
              case rel => exact ⟨m + 1, ys ++ [⟨d.1, d.2.1, mkStr d.2.2⟩], b2, by omega, by go_num, by simp [hys], HF, HK2⟩
              case measure => simp [intOf]; omega
          · have hmN : m = N := by omega
            have hk2 := hK.out
            rw [hmN, Nat.sub_self, tkVs] at hk2
            have HK2 := hid hk2
            have HN := hid (hys.trans hmN)
            clear hk2 hK hys
            have hd4 : decide ((m : Int) < (N : Int)) = false := by simp; omega
            clear hmN
            obtain ⟨r0, r1, r2, r3, r4, r5, rz⟩ := vfacts6 hT.out.st.sb.r2
            have hl := hT.out.st.lq
            go_wp2
            obtain ⟨f1, f2⟩ := St.fin2 hT.out HN.out HGP.out.1 HGP.out.2
            refine bodyPost_ret (ret30 Try.results36 rfl f1) rfl ?_
            rw [HZ.out, ← HK2.out]
            simpa [preV, calN] using f2
      · rw [if_neg hm] at HC ⊢
        unfold SP at HC
        unfold TXP
        dsimp only at HC ⊢
        clear hm hu0
        go_enter Try.func36, Try.ntmps36
        go_wp2_with (first
          | (go_at_call 48
             refine HR.out.mono ?_
             rintro e w1 ⟨h1, rfl, h2⟩
             have H1 := hid (st_start (o := tz 2 emp (.slice none 0 0)) HH.out h1 h2)
             obtain ⟨p0, p1, -⟩ := vfacts2 H1.out.sb.r1
             clear h1 h2)
          | (go_at_call 50
             refine (HT.out _ H1.out.sb.rd).mono ?_
             rintro e w2 ⟨h3, rfl, h4⟩
             have H2 := hid (H1.out.read HGP.out.1 h3 h4)
             obtain ⟨q0, q1, q2, q3, q4, q5, qz⟩ := vfacts6 H2.out.r3
             obtain ⟨p0, p1, -⟩ := vfacts2 H2.out.sb.r1
             have hq1 := H2.out.lq
             have H3 := hid (H2.out.put HGP.out.1 HGP.out.2 (name_set H2.out.r3 (mkStr t)).2 (name_set H2.out.r3 (mkStr t)).1)
             clear h3 h4)
          | (go_at_call 35
             refine (HC.out _ H3.out.sb.rd).mono ?_
             rintro e w3 ⟨h5, rfl⟩
             have H4 := hid (H3.out.sb.kp.trans h5 (fun _ _ h => h))
             clear h5))
        exact ⟨rfl, H4.out, rfl⟩
    · rw [if_neg he4] at HC ⊢
      unfold SP at HC
      unfold TXP
      dsimp only at HC ⊢
      clear hu0
      go_enter Try.func36, Try.ntmps36
      go_wp2_with (first
        | (go_at_call 48
           refine HR.out.mono ?_
           rintro e w1 ⟨h1, rfl, h2⟩
           have H1 := hid (st_start (o := tz 2 emp (.slice none 0 0)) HH.out h1 h2)
           obtain ⟨p0, p1, -⟩ := vfacts2 H1.out.sb.r1
           clear h1 h2)
        | (go_at_call 50
           refine (HT.out _ H1.out.sb.rd).mono ?_
           rintro e w2 ⟨h3, rfl, h4⟩
           have H2 := hid (H1.out.read HGP.out.1 h3 h4)
           obtain ⟨q0, q1, q2, q3, q4, q5, qz⟩ := vfacts6 H2.out.r3
           obtain ⟨p0, p1, -⟩ := vfacts2 H2.out.sb.r1
           have hq1 := H2.out.lq
           have H3 := hid (H2.out.put HGP.out.1 HGP.out.2 (name_set H2.out.r3 (mkStr t)).2 (name_set H2.out.r3 (mkStr t)).1)
           clear h3 h4)
        | (go_at_call 35
           refine (HC.out _ H3.out.sb.rd).mono ?_
           rintro e w3 ⟨h5, rfl⟩
           have H4 := hid (H3.out.sb.kp.trans h5 (fun _ _ h => h))
           clear h5))
      exact ⟨rfl, H4.out, rfl⟩
  · rw [if_neg he] at HT ⊢
    unfold SP at HT
    unfold TXP
    dsimp only at HT ⊢
    go_enter Try.func36, Try.ntmps36
    go_wp2_with (first
      | (go_at_call 48
         refine HR.out.mono ?_
         rintro e w1 ⟨h1, rfl, h2⟩
         have H1 := hid (st_start (o := tz 2 emp (.slice none 0 0)) HH.out h1 h2)
         obtain ⟨p0, p1, -⟩ := vfacts2 H1.out.sb.r1
         clear h1 h2)
      | (go_at_call 50
         refine (HT.out _ H1.out.sb.rd).mono ?_
         rintro e w2 ⟨h3, rfl⟩
         have H2 := hid (H1.out.sb.kp.trans h3 (fun _ _ h => h))
         clear h3))
    exact ⟨rfl, H2.out, rfl⟩

end Go.Proofs.Ytdnlfacfleemeaa

namespace Go.Proofs.Ytdnlfacfleemeaa
open Go.RowKit Go.Lib

theorem txn_any (p : Nat) (g : Option Nat) (bs : List Int) (a : Nat) (w : World) (h : Rd w p g bs a 0) (hg : ∀ k, g = some k → k < w.heap.size) :
    Calls Try.prog 36 #[sv p bs.length] w (TXP p g bs w (tkTx bs a)) := by
  unfold tkTx
  by_cases hE : (takeZ 0 1 bs a 0).2.2 = 0
  · rw [if_pos hE]
    by_cases h1 : (takeZ 0 1 bs a 0).1.1 = 1
    · rw [if_pos h1]
      exact txn_def p g bs a w h hg hE h1
    · rw [if_neg h1]
      by_cases h2 : (takeZ 0 1 bs a 0).1.1 = 2
      · rw [if_pos h2]
        exact txn_call p g bs a w h hg hE h2
      · rw [if_neg h2]
        exact txn_none p g bs a w h hE h1 h2
  · rw [if_neg hE]
    exact txn_err p g bs a w h hE

/-- What take leaves. -/
def TKB (w : World) (r : Except Int (Int × List Txd)) (e : Ending) (w' : World) : Prop :=
  Below w.heap.size w w' ∧ match r with
  | .ok (f, ts) => ∃ S, e = .returned (.agg #[.int .i64 f, S]) ∧ TsAt w.heap.size w' S ts
  | .error E => e = brefu E

def tCells : Array Value := #[.int .i64 0, .string emp, .int .i64 0, .slice none 0 0, .string emp, .slice none 0 0]

theorem Try.info30 : (Try.prog.info? 30).map (fun i => (i.zero.map Value.cells, i.size, i.bytes)) = some (some tCells, 6, 96) := by kernel_rfl

theorem tmade_at (n j : Nat) (m : Nat) (hj : j < n) (hm : m < 6) : (madeCells tCells (n * 6))[j * 6 + m]? = tCells[m]? := by
  have h1 : j * 6 + m < n * 6 := by omega
  have h2 : (j * 6 + m) % 6 = m := by omega
  unfold madeCells
  rw [Array.getElem?_map, Array.getElem?_range, if_pos h1, Option.map_some, show tCells.size = 6 from rfl, h2]
  rcases (show m = 0 ∨ m = 1 ∨ m = 2 ∨ m = 3 ∨ m = 4 ∨ m = 5 by omega) with rfl | rfl | rfl | rfl | rfl | rfl <;> rfl

theorem make30 (n : Nat) (hn : n ≤ 64) (w : World) : (Instr.makeSlice 22 (.int .i64 n) (.int .i64 n)).run Try.prog w = .ok (.slice (some ⟨w.heap.size, 0, none⟩) n n) (w.alloc (.cells (madeCells tCells (n * 6)) 30)) := by
  have h := Try.info30
  cases hi : Try.prog.info? 30 with
  | none => rw [hi] at h; simp at h
  | some i =>
    rw [hi] at h
    simp only [Option.map_some, Option.some.injEq, Prod.mk.injEq] at h
    obtain ⟨h1, h2, h3⟩ := h
    cases hz : i.zero with
    | none => rw [hz] at h1; simp at h1
    | some z =>
      rw [hz, Option.map_some, Option.some.injEq] at h1
      have := run_make (P := Try.prog) w 22 30 i z Try.underlying22 hi hz .i64 .i64 (n : Int) (n : Int) (by omega) (Int.le_refl _) (by rw [h3]; omega) (by omega)
      rw [h1, h2] at this
      simpa using this

abbrev zTx : Txd := ⟨0, emp, 0, [], emp, []⟩

theorem made_tx (w : World) (n j : Nat) (hj : j < n) : TxC (w.alloc (.cells (madeCells tCells (n * 6)) 30)) w.heap.size (j * 6) zTx (.slice none 0 0) (.slice none 0 0) := by
  have hb := heap_alloc_new w (.cells (madeCells tCells (n * 6)) 30)
  have h : ∀ m, m < 6 → (w.alloc (.cells (madeCells tCells (n * 6)) 30)).cell? ⟨w.heap.size, j * 6 + m, none⟩ = tCells[m]? := by
    intro m hm
    rw [cell_of_row _ _ _ _ _ _ hb, tmade_at n j m hj hm]
  exact ⟨h 0 (by decide), h 1 (by decide), h 2 (by decide), h 3 (by decide), h 4 (by decide), h 5 (by decide)⟩

/-- While a batch is taken: the result's box, the source's. -/
structure Ta (w W : World) (p : Nat) (bs : List Int) (a s : Nat) : Prop where
  r0 : W.heap[w.heap.size]? = some (bo 0 (.slice none 0 0))
  r1 : W.heap[s]? = some (so p bs.length)
  rd : Rd W p (some (w.heap.size + 1)) bs a 0
  hb : Below w.heap.size w W
  lp : w.heap.size + 1 < p
  ls : p < s

theorem Ta.below {w W W' : World} {p : Nat} {bs : List Int} {a s : Nat} (h : Ta w W p bs a s) (hb : Below W.heap.size W W') : Ta w W' p bs a s :=
  ⟨blk_of hb h.r0 (lt_of h.r0), blk_of hb h.r1 (lt_of h.r1), h.rd.below hb, below_on h.hb hb, h.lp, h.ls⟩

theorem Ta.read {w W W' : World} {p : Nat} {bs : List Int} {a a2 s : Nat} (h : Ta w W p bs a s) (hk : Kept (fun k => k = p) W W') (hr : Rd W' p (some (w.heap.size + 1)) bs a2 0) : Ta w W' p bs a2 s := by
  have := h.lp
  have := h.ls
  exact ⟨(hk.block _ (lt_of h.r0) (by omega)).trans h.r0, (hk.block _ (lt_of h.r1) (by omega)).trans h.r1, hr, h.hb.trans (hk.below h.hb.size (fun k h1 h2 => by omega)), h.lp, h.ls⟩

theorem Ta.errs {w W W' : World} {p : Nat} {bs : List Int} {a s : Nat} (h : Ta w W p bs a s) (hk : Kept (fun k => k = p) W W') : Below w.heap.size w W' := by
  have := h.lp
  exact h.hb.trans (hk.below h.hb.size (fun k h1 h2 => by omega))

/-- Another block is written. -/
theorem Ta.put {w W W' : World} {p : Nat} {bs : List Int} {a s q : Nat} (h : Ta w W p bs a s) (hq : s < q) (hk : Kept (fun k => k = q) W W') : Ta w W' p bs a s := by
  have := h.lp
  have := h.ls
  exact ⟨(hk.block _ (lt_of h.r0) (by omega)).trans h.r0, (hk.block _ (lt_of h.r1) (by omega)).trans h.r1, h.rd.kept hk (by omega) (fun k h1 h2 => by injection h1; omega), h.hb.trans (hk.below h.hb.size (fun k h1 h2 => by omega)), h.lp, h.ls⟩

theorem ta_start {w w1 : World} {p : Nat} {bs : List Int} {o : Obj} (ho : o = so p bs.length) (hp : (w.alloc (bo 0 (.slice none 0 0))).heap.size < p) (hr : Rd w1 p (some (w.alloc (bo 0 (.slice none 0 0))).heap.size) bs 0 0)
    (hb : Below (w.alloc (bo 0 (.slice none 0 0))).heap.size (w.alloc (bo 0 (.slice none 0 0))) w1) : Ta w (w1.alloc o) p bs 0 w1.heap.size := by
  subst ho
  have e : (w.alloc (bo 0 (.slice none 0 0))).heap.size = w.heap.size + 1 := by simp
  have h0 := blk_of hb (heap_alloc_new w (bo 0 (.slice none 0 0))) (by simp)
  rw [e] at hp hr
  have hpl := hr.plt
  have hb' : Below w.heap.size w w1 := (below1 w _).trans (hb.mono (below1 w (bo 0 (.slice none 0 0))).size)
  exact ⟨(Below.heap_alloc _ _ _ (lt_of h0)).trans h0, heap_alloc_new w1 _, hr.below (below1 w1 _), hb'.alloc hb'.size _, hp, hpl⟩

/-- With the batch's own box. -/
structure Tq (w W : World) (p : Nat) (bs : List Int) (a s q : Nat) (o : Obj) : Prop where
  ta : Ta w W p bs a s
  r2 : W.heap[q]? = some o
  lq : s < q

theorem Tq.read {w W W' : World} {p : Nat} {bs : List Int} {a a2 s q : Nat} {o : Obj} (h : Tq w W p bs a s q o) (hk : Kept (fun k => k = p) W W') (hr : Rd W' p (some (w.heap.size + 1)) bs a2 0) : Tq w W' p bs a2 s q o := by
  have := h.ta.ls
  have := h.lq
  exact ⟨h.ta.read hk hr, (hk.block _ (lt_of h.r2) (by omega)).trans h.r2, h.lq⟩

theorem Tq.below {w W W' : World} {p : Nat} {bs : List Int} {a s q : Nat} {o : Obj} (h : Tq w W p bs a s q o) (hb : Below W.heap.size W W') : Tq w W' p bs a s q o :=
  ⟨h.ta.below hb, blk_of hb h.r2 (lt_of h.r2), h.lq⟩

theorem tq_start {w W : World} {p : Nat} {bs : List Int} {a s : Nat} (h : Ta w W p bs a s) (o : Obj) : Tq w (W.alloc o) p bs a s W.heap.size o :=
  ⟨h.below (below1 W o), heap_alloc_new W o, lt_of h.r1⟩

theorem bo_set {W : World} {q : Nat} {f : Int} {S0 : Value} (h : W.heap[q]? = some (bo f S0)) (S : Value) : (W.setCell ⟨q, 1, none⟩ S).heap[q]? = some (bo f S) ∧ Kept (fun k => k = q) W (W.setCell ⟨q, 1, none⟩ S) :=
  ⟨by simp [World.setCell, Array.getElem?_modify, h], (Kept.refl (fun k => k = q) W).setCell (p := ⟨q, 1, none⟩) (fun _ => rfl) _⟩

/-- With the list. -/
structure Tb (w W : World) (p : Nat) (bs : List Int) (a s q tb N : Nat) (f : Int) (ys : List Txd) : Prop where
  tq : Tq w W p bs a s q (bo f (.slice (some ⟨tb, 0, none⟩) N N))
  bk : ∃ cs, W.heap[tb]? = some (.cells cs 30 (0, 0))
  c1 : ∀ (j : Nat) (t : Txd), ys[j]? = some t → TxAt (tb + 1) W tb (j * 6) t
  c2 : ∀ j, ys.length ≤ j → j < N → TxC W tb (j * 6) zTx (.slice none 0 0) (.slice none 0 0)
  lt : q < tb

theorem TxAt.both {B : Nat} {w w' : World} {b o : Nat} {t : Txd} (h : TxAt B w b o t) (hs : Same B w w') (hb : w'.heap[b]? = w.heap[b]?) : TxAt B w' b o t := by
  obtain ⟨S1, S2, h1, h2, h3⟩ := h
  exact ⟨S1, S2, h1.same hb, h2.same hs, h3.same hs⟩

theorem Tb.read {w W W' : World} {p : Nat} {bs : List Int} {a a2 s q tb N : Nat} {f : Int} {ys : List Txd} (h : Tb w W p bs a s q tb N f ys) (hk : Kept (fun k => k = p) W W') (hr : Rd W' p (some (w.heap.size + 1)) bs a2 0) : Tb w W' p bs a2 s q tb N f ys := by
  obtain ⟨cs, hc⟩ := h.bk
  have h1 := h.tq.ta.ls
  have h2 := h.tq.lq
  have h3 := h.lt
  have hs := hk.block _ (lt_of hc) (by omega)
  exact ⟨h.tq.read hk hr, ⟨cs, hs.trans hc⟩, fun j v hv => (h.c1 j v hv).both (Same.kept hk (fun k _ _ => by omega)) hs, fun j h1 h2 => (h.c2 j h1 h2).same hs, h.lt⟩

theorem Tb.below {w W W' : World} {p : Nat} {bs : List Int} {a s q tb N : Nat} {f : Int} {ys : List Txd} (h : Tb w W p bs a s q tb N f ys) (hb : Below W.heap.size W W') : Tb w W' p bs a s q tb N f ys := by
  obtain ⟨cs, hc⟩ := h.bk
  have hs := hb.block _ (lt_of hc)
  exact ⟨h.tq.below hb, ⟨cs, hs.trans hc⟩, fun j v hv => (h.c1 j v hv).both (Same.below hb) hs, fun j h1 h2 => (h.c2 j h1 h2).same hs, h.lt⟩

abbrev put6o (w : World) (r o : Nat) (a b c d e f : Value) : World :=
  (((((w.setCell ⟨r, o, none⟩ a).setCell ⟨r, o + 1, none⟩ b).setCell ⟨r, o + 2, none⟩ c).setCell ⟨r, o + 3, none⟩ d).setCell ⟨r, o + 4, none⟩ e).setCell ⟨r, o + 5, none⟩ f

theorem kept6o (w : World) (r o : Nat) (a b c d e f : Value) : Kept (fun k => k = r) w (put6o w r o a b c d e f) :=
  ((((((Kept.refl (fun k => k = r) w).setCell (p := ⟨r, o, none⟩) (fun _ => rfl) _).setCell (p := ⟨r, o + 1, none⟩) (fun _ => rfl) _).setCell (p := ⟨r, o + 2, none⟩) (fun _ => rfl) _).setCell (p := ⟨r, o + 3, none⟩) (fun _ => rfl) _).setCell (p := ⟨r, o + 4, none⟩) (fun _ => rfl) _).setCell (p := ⟨r, o + 5, none⟩) (fun _ => rfl) _

theorem put6_off {W : World} {b o o' : Nat} (a0 a1 a2 a3 a4 a5 : Value) (hne : o' < o ∨ o + 6 ≤ o') : (put6o W b o a0 a1 a2 a3 a4 a5).cell? ⟨b, o', none⟩ = W.cell? ⟨b, o', none⟩ := by
  rw [cs_off (by omega), cs_off (by omega), cs_off (by omega), cs_off (by omega), cs_off (by omega), cs_off (by omega)]

theorem put6_at {W : World} {b o : Nat} {u : Txd} {T1 T2 : Value} (h : TxC W b o u T1 T2) (t : Txd) (S1 S2 : Value) : TxC (put6o W b o (.int .i64 t.k) (.string t.pn) (.int .i64 t.pa) S1 (.string t.nm) S2) b o t S1 S2 := by
  refine ⟨?_, ?_, ?_, ?_, ?_, ?_⟩
  · rw [cs_off (by omega), cs_off (by omega), cs_off (by omega), cs_off (by omega), cs_off (by omega)]; exact cs_same h.c0
  · rw [cs_off (by omega), cs_off (by omega), cs_off (by omega), cs_off (by omega)]; exact cs_same ((cs_off (by omega) _).trans h.c1)
  · rw [cs_off (by omega), cs_off (by omega), cs_off (by omega)]; exact cs_same ((cs_off (by omega) _).trans ((cs_off (by omega) _).trans h.c2))
  · rw [cs_off (by omega), cs_off (by omega)]; exact cs_same ((cs_off (by omega) _).trans ((cs_off (by omega) _).trans ((cs_off (by omega) _).trans h.c3)))
  · rw [cs_off (by omega)]; exact cs_same ((cs_off (by omega) _).trans ((cs_off (by omega) _).trans ((cs_off (by omega) _).trans ((cs_off (by omega) _).trans h.c4))))
  · exact cs_same ((cs_off (by omega) _).trans ((cs_off (by omega) _).trans ((cs_off (by omega) _).trans ((cs_off (by omega) _).trans ((cs_off (by omega) _).trans h.c5)))))

theorem Tb.set {w W : World} {p : Nat} {bs : List Int} {a s q tb N : Nat} {f : Int} {ys : List Txd} (h : Tb w W p bs a s q tb N f ys) (hm : ys.length < N) (t : Txd) (S1 S2 : Value) (h1 : CdAt (tb + 1) W S1 t.xs) (h2 : VsAt (tb + 1) W S2 t.vs) :
    Tb w (put6o W tb (ys.length * 6) (.int .i64 t.k) (.string t.pn) (.int .i64 t.pa) S1 (.string t.nm) S2) p bs a s q tb N f (ys ++ [t]) := by
  have hk := kept6o W tb (ys.length * 6) (.int .i64 t.k) (.string t.pn) (.int .i64 t.pa) S1 (.string t.nm) S2
  have hl := h.lt
  have hq := h.tq.lq
  have hsm : Same (tb + 1) W (put6o W tb (ys.length * 6) (.int .i64 t.k) (.string t.pn) (.int .i64 t.pa) S1 (.string t.nm) S2) := Same.kept hk (fun k h1 _ => by omega)
  refine ⟨⟨h.tq.ta.put (by omega) hk, (hk.block _ (lt_of h.tq.r2) (by omega)).trans h.tq.r2, hq⟩, blk_set (blk_set (blk_set (blk_set (blk_set (blk_set h.bk))))), ?_, ?_, hl⟩
  · intro j u hu
    by_cases hj : j < ys.length
    · rw [List.getElem?_append_left hj] at hu
      obtain ⟨T1, T2, e1, e2, e3⟩ := h.c1 j u hu
      exact ⟨T1, T2, e1.moved (fun m hm => put6_off _ _ _ _ _ _ (by omega)), e2.same hsm, e3.same hsm⟩
    · have hj2 : j = ys.length := by
        have := (List.getElem?_eq_some_iff.1 hu).1
        simp at this
        omega
      subst hj2
      simp at hu
      subst hu
      exact ⟨S1, S2, put6_at (h.c2 ys.length (Nat.le_refl _) hm) t S1 S2, h1.same hsm, h2.same hsm⟩
  · intro j h1 h2
    simp at h1
    exact (h.c2 j (by omega) h2).moved (fun m hm => put6_off _ _ _ _ _ _ (by omega))

theorem tb_start {w W : World} {p : Nat} {bs : List Int} {a s q N : Nat} {f : Int} {S0 : Value} (h : Tq w W p bs a s q (bo f S0)) :
    Tb w ((W.setCell ⟨q, 1, none⟩ (.slice (some ⟨W.heap.size, 0, none⟩) N N)).alloc (.cells (madeCells tCells (N * 6)) 30)) p bs a s q W.heap.size N f [] := by
  obtain ⟨e1, e2⟩ := bo_set h.r2 (.slice (some ⟨W.heap.size, 0, none⟩) N N)
  have h2 : Tq w (W.setCell ⟨q, 1, none⟩ (.slice (some ⟨W.heap.size, 0, none⟩) N N)) p bs a s q (bo f (.slice (some ⟨W.heap.size, 0, none⟩) N N)) := ⟨h.ta.put h.lq e2, e1, h.lq⟩
  have hz : (W.setCell ⟨q, 1, none⟩ (.slice (some ⟨W.heap.size, 0, none⟩) N N)).heap.size = W.heap.size := by simp [World.setCell]
  have hq := lt_of h.r2
  generalize W.setCell ⟨q, 1, none⟩ (.slice (some ⟨W.heap.size, 0, none⟩) N N) = V at *
  have hb := heap_alloc_new V (.cells (madeCells tCells (N * 6)) 30)
  rw [hz] at hb
  exact ⟨h2.below (below1 V _), ⟨_, hb⟩, fun j v hv => by simp at hv, fun j _ h4 => by have := made_tx V N j h4; rwa [hz] at this, hq⟩

def preT (ys : List Txd) : Except Int (List Txd × Nat) → Except Int (List Txd × Nat)
  | .error E => .error E
  | .ok (xs, a) => .ok (ys ++ xs, a)

theorem preT_ok (bs : List Int) (n a : Nat) (ys : List Txd) (t : Txd) (a2 : Nat) (h : tkTx bs a = .ok (t, a2)) : preT ys (tkTs bs (n + 1) a) = preT (ys ++ [t]) (tkTs bs n a2) := by
  rw [tkTs, h]
  dsimp only
  cases tkTs bs n a2 with
  | error E => rfl
  | ok r => simp [preT]

theorem preT_no (bs : List Int) (n a : Nat) (ys : List Txd) (E : Int) (h : tkTx bs a = .error E) : preT ys (tkTs bs (n + 1) a) = .error E := by
  rw [tkTs, h]
  rfl

set_option maxRecDepth 100000 in
theorem loadB {w : World} {r : Nat} {a b : Value} (hb : w.heap[r]? = some (.cells #[a, b] 24 (0, 0))) : (loadVar 24 ⟨r, 0, none⟩).run Try.prog w = .ok (.agg #[a, b]) w := by
  obtain ⟨c0, c1, _⟩ := vfacts2 hb
  simp [go_sem, c0, c1]

theorem retB {fn : Func} {p : Tmp} (h : fn.results = #[.cell p 24]) {tmps : Array Value} {r : Nat} {w : World} {a b : Value} (ht : tmps.getD p undef = .pointer (some ⟨r, 0, none⟩)) (hb : w.heap[r]? = some (.cells #[a, b] 24 (0, 0))) :
    (results fn tmps).run Try.prog w = .ok (.agg #[a, b]) w := by
  have ht2 := ht
  simp only [Array.getD_eq_getD_getElem?] at ht2
  simp only [results, h]
  simp [ht2, loadB hb, asAddr]

theorem Tb.fin {w W : World} {p : Nat} {bs : List Int} {a s q tb N : Nat} {f : Int} {ys : List Txd} (h : Tb w W p bs a s q tb N f ys) (hN : ys.length = N) :
    ((W.setCell ⟨w.heap.size, 0, none⟩ (.int .i64 f)).setCell ⟨w.heap.size, 1, none⟩ (.slice (some ⟨tb, 0, none⟩) N N)).heap[w.heap.size]? = some (.cells #[.int .i64 f, .slice (some ⟨tb, 0, none⟩) N N] 24 (0, 0)) ∧
    TKB w (.ok (f, ys)) (.returned (.agg #[.int .i64 f, .slice (some ⟨tb, 0, none⟩) N N])) ((W.setCell ⟨w.heap.size, 0, none⟩ (.int .i64 f)).setCell ⟨w.heap.size, 1, none⟩ (.slice (some ⟨tb, 0, none⟩) N N)) := by
  have hk : Kept (fun k => k = w.heap.size) W ((W.setCell ⟨w.heap.size, 0, none⟩ (.int .i64 f)).setCell ⟨w.heap.size, 1, none⟩ (.slice (some ⟨tb, 0, none⟩) N N)) :=
    ((Kept.refl (fun k => k = w.heap.size) W).setCell (p := ⟨w.heap.size, 0, none⟩) (fun _ => rfl) _).setCell (p := ⟨w.heap.size, 1, none⟩) (fun _ => rfl) _
  have h0 := h.tq.ta.r0
  have h1 := h.tq.ta.lp
  have h2 := h.tq.ta.ls
  have h3 := h.tq.lq
  have h4 := h.lt
  refine ⟨by simp [World.setCell, Array.getElem?_modify, h0], h.tq.ta.hb.trans (hk.below h.tq.ta.hb.size (fun k h1 h2 => by omega)), _, rfl, ?_⟩
  have hs : Same (w.heap.size + 1) W ((W.setCell ⟨w.heap.size, 0, none⟩ (.int .i64 f)).setCell ⟨w.heap.size, 1, none⟩ (.slice (some ⟨tb, 0, none⟩) N N)) := Same.kept hk (fun k h1 _ => by omega)
  refine TsAt.mono (B := w.heap.size + 1) (TsAt.same (w := W) ?_ hs) (by omega)
  subst hN
  exact ⟨_, _, rfl, Nat.le_refl _, fun _ => ⟨tb, 0, rfl, by omega, fun j t ht => by rw [Nat.zero_add]; exact (h.c1 j t ht).mono (by omega)⟩⟩

end Go.Proofs.Ytdnlfacfleemeaa
