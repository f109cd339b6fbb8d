import Derived.Test.YtdnlfacfleemeaaK16
import Derived.Deep.Cut
namespace Go.Proofs.Ytdnlfacfleemeaa
open Go.RowKit Go.Lib

/-- A refusal of this package's own. -/
abbrev brefu (E : Int) : Ending := .panicked [{ v := .iface 65 (.agg #[.int .i64 E]), recovered := false }]
abbrev sv (p : Nat) (n : Int) : Value := .agg #[.pointer (some ⟨p, 0, none⟩), .int .i64 n]
abbrev so (p : Nat) (n : Int) : Obj := .cells #[.pointer (some ⟨p, 0, none⟩), .int .i64 n] 83

set_option maxRecDepth 100000 in
theorem binsist_ok (w : World) : Calls Try.prog 22 #[.int .i64 0] w fun x w' => x = .returned (.tuple #[]) ∧ w' = w := by
  go_enter Try.func22, Try.ntmps22
  go_wp2
  go_end0
  exact ⟨rfl, rfl⟩

set_option maxRecDepth 100000 in
theorem binsist_no (E : Int) (hE : E ≠ 0) (w : World) : Calls Try.prog 22 #[.int .i64 E] w fun x w' => x = brefu E ∧ w' = w := by
  have he : (E == 0) = false := by simpa using hE
  go_enter Try.func22, Try.ntmps22
  go_wp2
  exact ⟨rfl, rfl, rfl⟩

set_option maxRecDepth 100000 in
theorem btaken_ok (p : Nat) (n : Int) (g : Option Nat) (bs : List Int) (a : Nat) (w : World) (h : Rd w p g bs a 0) : Calls Try.prog 47 #[sv p n] w fun x w' => x = .returned (.tuple #[]) ∧ Below w.heap.size w w' := by
  have HR := hid (rerr_any p g bs a 0 (w.alloc (so p n)) (h.below (below1 w _)))
  have HB := hid (below1 w (so p n))
  clear h
  go_enter Try.func47, Try.ntmps47
  go_wp2_with (first
    | (go_at_call 52; refine HR.out.mono ?_; rintro e w1 ⟨hq, rfl⟩; have H1 := hid (below_on HB.out (DN.below hq)); clear hq; dsimp only)
    | (go_at_call 22; refine (binsist_ok _).mono ?_; rintro e w2 ⟨rfl, e2⟩; rw [e2]; clear e2 w2))
  go_end0
  exact ⟨rfl, H1.out⟩

set_option maxRecDepth 100000 in
theorem btaken_no (p : Nat) (n : Int) (g : Option Nat) (bs : List Int) (a : Nat) (E : Int) (hE : E ≠ 0) (w : World) (h : Rd w p g bs a E) : Calls Try.prog 47 #[sv p n] w fun x w' => x = brefu E ∧ Below w.heap.size w w' := by
  have HR := hid (rerr_any p g bs a E (w.alloc (so p n)) (h.below (below1 w _)))
  have HB := hid (below1 w (so p n))
  clear h
  go_enter Try.func47, Try.ntmps47
  go_wp2_with (first
    | (go_at_call 52; refine HR.out.mono ?_; rintro e w1 ⟨hq, rfl⟩; have H1 := hid (below_on HB.out (DN.below hq)); clear hq; dsimp only)
    | (go_at_call 22; refine (binsist_no E hE _).mono ?_; rintro e w2 ⟨rfl, e2⟩; rw [e2]; clear e2 w2))
  exact ⟨rfl, rfl, H1.out⟩

/-- What a reading leaves. -/
def SP (p : Nat) (g : Option Nat) (bs : List Int) (w : World) (r : Except Int (Value × Nat)) (e : Ending) (w' : World) : Prop :=
  Kept (fun k => k = p) w w' ∧ match r with
  | .ok (v, a) => e = .returned v ∧ Rd w' p g bs a 0
  | .error E => e = brefu E

theorem src_step {w w1 : World} {p : Nat} {g : Option Nat} {bs : List Int} {a a2 : Nat} {e n : Int} (h : Rd w p g bs a 0) (hs : RdStep p g (w.alloc (so p n)) w1 bs a2 e) :
    w1.heap[w.heap.size]? = some (so p n) ∧ Kept (fun k => k = p) w w1 ∧ Rd w1 p g bs a2 e := by
  obtain ⟨h1, h2⟩ := hs
  have hp := h.plt
  have b1 := heap_alloc_new w (so p n)
  exact ⟨(h2.block _ (lt_of b1) (by omega)).trans b1, ((Kept.ofBelow (below1 w (so p n))).mono (S' := fun k => k = p) (fun _ _ h => h.elim)).trans h2 (fun _ _ h => h), h1⟩

theorem Kept.more {S : Nat → Prop} {a b c : World} (h : Kept S a b) (hb : Below b.heap.size b c) : Kept S a c := h.trans (Kept.ofBelow hb) (fun _ _ h => h.elim)

/-- The three plain readings, as Except. -/
def rdX (f n : Int) (m : Int × List Int → Value) (bs : List Int) (a : Nat) : Except Int (Value × Nat) :=
  if (takeZ f n bs a 0).2.2 = 0 then .ok (m (takeZ f n bs a 0).1, (takeZ f n bs a 0).2.1) else .error (takeZ f n bs a 0).2.2

set_option maxRecDepth 100000 in
set_option maxHeartbeats 800000 in
theorem snum_any (p : Nat) (n : Int) (g : Option Nat) (bs : List Int) (a : Nat) (w : World) (h : Rd w p g bs a 0) :
    Calls Try.prog 34 #[sv p n] w (SP p g bs w (rdX 1 0 (fun u => .int .i64 u.1) bs a)) := by
  have HR := hid (rnum_any p g bs a 0 (w.alloc (so p n)) (h.below (below1 w _)))
  have HH := hid h
  unfold rdX
  obtain ⟨⟨⟨u, t⟩, a2, e2⟩, ht⟩ : ∃ t, takeZ 1 0 bs a 0 = t := ⟨_, rfl⟩
  rw [ht] at HR ⊢
  dsimp only at HR ⊢
  clear h ht
  by_cases he : e2 = 0
  · subst he
    rw [if_pos rfl]
    unfold SP
    dsimp only
    go_enter Try.func34, Try.ntmps34
    go_wp2_with (first
      | (go_at_call 46
         refine HR.out.mono ?_
         rintro e w1 ⟨h1, rfl⟩
         have H1 := hid (src_step HH.out h1)
         obtain ⟨p0, p1, -⟩ := vfacts2 H1.out.1
         clear h1)
      | (go_at_call 47
         refine (btaken_ok p n g bs a2 w1 H1.out.2.2).mono ?_
         rintro e w2 ⟨rfl, h2⟩
         have H2 := hid h2
         clear h2))
    go_ret
    exact ⟨H1.out.2.1.more H2.out, rfl, H1.out.2.2.below H2.out⟩
  · rw [if_neg he]
    unfold SP
    dsimp only
    go_enter Try.func34, Try.ntmps34
    go_wp2_with (first
      | (go_at_call 46
         refine HR.out.mono ?_
         rintro e w1 ⟨h1, rfl⟩
         have H1 := hid (src_step HH.out h1)
         obtain ⟨p0, p1, -⟩ := vfacts2 H1.out.1
         clear h1)
      | (go_at_call 47
         refine (btaken_no p n g bs a2 e2 he w1 H1.out.2.2).mono ?_
         rintro e w2 ⟨rfl, h2⟩
         have H2 := hid h2
         clear h2))
    exact ⟨rfl, H1.out.2.1.more H2.out, rfl⟩

set_option maxRecDepth 100000 in
set_option maxHeartbeats 800000 in
theorem skind_any (p : Nat) (n : Int) (g : Option Nat) (bs : List Int) (a : Nat) (w : World) (h : Rd w p g bs a 0) :
    Calls Try.prog 48 #[sv p n] w (SP p g bs w (rdX 0 1 (fun u => .int .i64 u.1) bs a)) := by
  have hb := takeZ_bd 0 1 bs a 0 h.oct
  have HR := hid (rbyte_any p g bs a 0 (w.alloc (so p n)) (h.below (below1 w _)))
  have HH := hid h
  unfold rdX
  obtain ⟨⟨⟨u, t⟩, a2, e2⟩, ht⟩ : ∃ t, takeZ 0 1 bs a 0 = t := ⟨_, rfl⟩
  rw [ht] at HR hb ⊢
  dsimp only at HR hb ⊢
  have hv0 : 0 ≤ u := hb.1
  have hv1 : u < 256 := hb.2.2.2 rfl rfl
  clear h ht hb
  by_cases he : e2 = 0
  · subst he
    rw [if_pos rfl]
    unfold SP
    dsimp only
    go_enter Try.func48, Try.ntmps48
    go_wp2_with (first
      | (go_at_call 69
         refine HR.out.mono ?_
         rintro e w1 ⟨h1, rfl⟩
         have H1 := hid (src_step HH.out h1)
         obtain ⟨p0, p1, -⟩ := vfacts2 H1.out.1
         clear h1)
      | (go_at_call 47
         refine (btaken_ok p n g bs a2 w1 H1.out.2.2).mono ?_
         rintro e w2 ⟨rfl, h2⟩
         have H2 := hid h2
         clear h2))
    go_ret
    exact ⟨H1.out.2.1.more H2.out, rfl, H1.out.2.2.below H2.out⟩
  · rw [if_neg he]
    unfold SP
    dsimp only
    go_enter Try.func48, Try.ntmps48
    go_wp2_with (first
      | (go_at_call 69
         refine HR.out.mono ?_
         rintro e w1 ⟨h1, rfl⟩
         have H1 := hid (src_step HH.out h1)
         obtain ⟨p0, p1, -⟩ := vfacts2 H1.out.1
         clear h1)
      | (go_at_call 47
         refine (btaken_no p n g bs a2 e2 he w1 H1.out.2.2).mono ?_
         rintro e w2 ⟨rfl, h2⟩
         have H2 := hid h2
         clear h2))
    exact ⟨rfl, H1.out.2.1.more H2.out, rfl⟩

set_option maxRecDepth 100000 in
set_option maxHeartbeats 800000 in
theorem stext_any (p : Nat) (n most : Int) (g : Option Nat) (bs : List Int) (a : Nat) (w : World) (h : Rd w p g bs a 0) (hn0 : -9223372036854775808 ≤ most) (hn1 : most < 9223372036854775808) :
    Calls Try.prog 50 #[sv p n, .int .i64 most] w (SP p g bs w (rdX 3 most (fun u => .string (mkStr u.2)) bs a)) := by
  have HR := hid (rtext_any p g bs a 0 most (w.alloc (so p n)) (h.below (below1 w _)) hn0 hn1)
  have HH := hid h
  unfold rdX
  obtain ⟨⟨⟨u, t⟩, a2, e2⟩, ht⟩ : ∃ t, takeZ 3 most bs a 0 = t := ⟨_, rfl⟩
  rw [ht] at HR ⊢
  dsimp only at HR ⊢
  clear h ht
  by_cases he : e2 = 0
  · subst he
    rw [if_pos rfl]
    unfold SP
    dsimp only
    go_enter Try.func50, Try.ntmps50
    go_wp2_with (first
      | (go_at_call 71
         refine HR.out.mono ?_
         rintro e w1 ⟨h1, rfl⟩
         have H1 := hid (src_step HH.out h1)
         obtain ⟨p0, p1, -⟩ := vfacts2 H1.out.1
         clear h1)
      | (go_at_call 47
         refine (btaken_ok p n g bs a2 w1 H1.out.2.2).mono ?_
         rintro e w2 ⟨rfl, h2⟩
         have H2 := hid h2
         clear h2))
    go_ret
    exact ⟨H1.out.2.1.more H2.out, rfl, H1.out.2.2.below H2.out⟩
  · rw [if_neg he]
    unfold SP
    dsimp only
    go_enter Try.func50, Try.ntmps50
    go_wp2_with (first
      | (go_at_call 71
         refine HR.out.mono ?_
         rintro e w1 ⟨h1, rfl⟩
         have H1 := hid (src_step HH.out h1)
         obtain ⟨p0, p1, -⟩ := vfacts2 H1.out.1
         clear h1)
      | (go_at_call 47
         refine (btaken_no p n g bs a2 e2 he w1 H1.out.2.2).mono ?_
         rintro e w2 ⟨rfl, h2⟩
         have H2 := hid h2
         clear h2))
    exact ⟨rfl, H1.out.2.1.more H2.out, rfl⟩

/-- A count. -/
def cntX (most E : Int) (bs : List Int) (a : Nat) : Except Int (Value × Nat) :=
  if (takeZ 1 0 bs a 0).2.2 = 0 then (if (takeZ 1 0 bs a 0).1.1 ≤ most then .ok (.int .i64 (takeZ 1 0 bs a 0).1.1, (takeZ 1 0 bs a 0).2.1) else .error E) else .error (takeZ 1 0 bs a 0).2.2

set_option maxRecDepth 100000 in
set_option maxHeartbeats 800000 in
theorem scount_any (p : Nat) (n most E : Int) (g : Option Nat) (bs : List Int) (a : Nat) (w : World) (h : Rd w p g bs a 0) :
    Calls Try.prog 35 #[sv p n, .int .i64 most, .int .i64 E] w (SP p g bs w (cntX most E bs a)) := by
  have HR := hid (snum_any p n g bs a (w.alloc (so p n)) (h.below (below1 w _)))
  have HB := hid ((Kept.ofBelow (below1 w (so p n))).mono (S' := fun k => k = p) (fun _ _ h => h.elim))
  unfold rdX at HR
  unfold cntX
  obtain ⟨⟨⟨u, t⟩, a2, e2⟩, ht⟩ : ∃ t, takeZ 1 0 bs a 0 = t := ⟨_, rfl⟩
  rw [ht] at HR ⊢
  dsimp only at HR ⊢
  clear h ht
  by_cases he : e2 = 0
  · subst he
    rw [if_pos rfl] at HR ⊢
    unfold SP at HR
    dsimp only at HR
    by_cases hm : u ≤ most
    · rw [if_pos hm]
      unfold SP
      dsimp only
      have hd : decide (most < u) = false := by simp; omega
      clear hm
      go_enter Try.func35, Try.ntmps35
      go_wp2_with (first
        | (go_at_call 34
           refine HR.out.mono ?_
           rintro e w1 ⟨h1, rfl, h2⟩
           have H1 := hid (And.intro (HB.out.trans h1 (fun _ _ h => h)) h2)
           clear h1 h2))
      go_ret
      exact ⟨H1.out.1, rfl, H1.out.2⟩
    · rw [if_neg hm]
      unfold SP
      dsimp only
      have hd : most < u := by omega
      clear hm
      go_enter Try.func35, Try.ntmps35
      go_wp2_with (first
        | (go_at_call 34
           refine HR.out.mono ?_
           rintro e w1 ⟨h1, rfl, h2⟩
           have H1 := hid (And.intro (HB.out.trans h1 (fun _ _ h => h)) h2)
           clear h1 h2))
      exact ⟨rfl, H1.out.1, rfl⟩
  · rw [if_neg he] at HR ⊢
    unfold SP at HR ⊢
    dsimp only at HR ⊢
    go_enter Try.func35, Try.ntmps35
    go_wp2_with (first
      | (go_at_call 34
         refine HR.out.mono ?_
         rintro e w1 ⟨h1, rfl⟩
         have H1 := hid (HB.out.trans h1 (fun _ _ h => h))
         clear h1))
    exact ⟨rfl, H1.out, rfl⟩

end Go.Proofs.Ytdnlfacfleemeaa

namespace Go.Proofs.Ytdnlfacfleemeaa
open Go.RowKit Go.Lib

/-- While something is taken: the source's box, the result's. -/
structure Sb (w W : World) (p : Nat) (n : Int) (g : Option Nat) (bs : List Int) (a : Nat) (o : Obj) : Prop where
  r1 : W.heap[w.heap.size]? = some (so p n)
  r2 : W.heap[w.heap.size + 1]? = some o
  kp : Kept (fun k => k = p) w W
  rd : Rd W p g bs a 0

theorem Sb.below {w W W' : World} {p : Nat} {n : Int} {g : Option Nat} {bs : List Int} {a : Nat} {o : Obj} (h : Sb w W p n g bs a o) (hb : Below W.heap.size W W') : Sb w W' p n g bs a o :=
  ⟨blk_of hb h.r1 (lt_of h.r1), blk_of hb h.r2 (lt_of h.r2), h.kp.more hb, h.rd.below hb⟩

theorem kept2 (p : Nat) (w : World) (o q : Obj) : Kept (fun k => k = p) w ((w.alloc o).alloc q) := (Kept.ofBelow (below2 w o q)).mono (fun _ _ h => h.elim)

theorem sb_start {w W : World} {p : Nat} {n : Int} {g : Option Nat} {bs : List Int} {a a2 : Nat} {o : Obj} (h : Rd w p g bs a 0) (hk : Kept (fun k => k = p) ((w.alloc (so p n)).alloc o) W) (hr : Rd W p g bs a2 0) : Sb w W p n g bs a2 o := by
  have hp := h.plt
  have b1 := two1 w (so p n) o
  have b2 := two2 w (so p n) o
  exact ⟨(hk.block _ (lt_of b1) (by omega)).trans b1, (hk.block _ (lt_of b2) (by omega)).trans b2, (kept2 p w _ _).trans hk (fun _ _ h => h), hr⟩

theorem Sb.fin {w W : World} {p : Nat} {n : Int} {g : Option Nat} {bs : List Int} {a : Nat} {x0 y0 z0 : Value} {ty : TypeId} (h : Sb w W p n g bs a (.cells #[x0, y0, z0] ty)) (hp : p < w.heap.size) (hg : ∀ k, g = some k → k < w.heap.size) (x y z : Value) :
    (((W.setCell ⟨w.heap.size + 1, 0, none⟩ x).setCell ⟨w.heap.size + 1, 1, none⟩ y).setCell ⟨w.heap.size + 1, 2, none⟩ z).heap[w.heap.size + 1]? = some (.cells #[x, y, z] ty (0, 0)) ∧
    Kept (fun k => k = p) w (((W.setCell ⟨w.heap.size + 1, 0, none⟩ x).setCell ⟨w.heap.size + 1, 1, none⟩ y).setCell ⟨w.heap.size + 1, 2, none⟩ z) ∧
    Rd (((W.setCell ⟨w.heap.size + 1, 0, none⟩ x).setCell ⟨w.heap.size + 1, 1, none⟩ y).setCell ⟨w.heap.size + 1, 2, none⟩ z) p g bs a 0 ∧
    Kept (fun k => k = w.heap.size + 1) W (((W.setCell ⟨w.heap.size + 1, 0, none⟩ x).setCell ⟨w.heap.size + 1, 1, none⟩ y).setCell ⟨w.heap.size + 1, 2, none⟩ z) := by
  have h3 := set3 h.r2 x y z
  have hk : Kept (fun k => k = w.heap.size + 1) W (((W.setCell ⟨w.heap.size + 1, 0, none⟩ x).setCell ⟨w.heap.size + 1, 1, none⟩ y).setCell ⟨w.heap.size + 1, 2, none⟩ z) :=
    (((Kept.refl (fun k => k = w.heap.size + 1) W).setCell (p := ⟨w.heap.size + 1, 0, none⟩) (fun _ => rfl) x).setCell (p := ⟨w.heap.size + 1, 1, none⟩) (fun _ => rfl) y).setCell (p := ⟨w.heap.size + 1, 2, none⟩) (fun _ => rfl) z
  exact ⟨h3, h.kp.trans hk (fun i hi e => (by omega)), h.rd.kept hk (by omega) (fun k hk2 e => by have := hg k hk2; omega), hk⟩

/-- A value, as Except. -/
def valX (bs : List Int) (most : Int) (a : Nat) : Except Int (Value × Nat) :=
  match tkVal bs most a with
  | .error E => .error E
  | .ok (d, a2) => .ok (vl d.1 d.2.1 (mkStr d.2.2), a2)

set_option maxRecDepth 100000 in
set_option maxHeartbeats 4000000 in
theorem svalue_any (p : Nat) (n : Int) (g : Option Nat) (bs : List Int) (a : Nat) (w : World) (h : Rd w p g bs a 0) (hg : ∀ k, g = some k → k < w.heap.size) (hn0 : -9223372036854775808 ≤ n) (hn1 : n < 9223372036854775808) :
    Calls Try.prog 51 #[sv p n] w (SP p g bs w (valX bs n a)) := by
  have HR := hid (stext_any p n n g bs a ((w.alloc (so p n)).alloc (vo 0 0 emp)) (h.below (below2 w _ _)) hn0 hn1)
  have hoc := takeZ_oct3 n bs a h.oct
  have hbl : bs.length ≤ 1000000000 := by obtain ⟨_, _, _, _, _, _, _, h⟩ := h; exact h
  unfold valX tkVal
  unfold rdX at HR
  obtain ⟨⟨⟨u, t⟩, a2, e2⟩, ht⟩ : ∃ t, takeZ 3 n bs a 0 = t := ⟨_, rfl⟩
  rw [ht] at HR hoc ⊢
  dsimp only at HR hoc ⊢
  have HO := hid hoc
  have HH := hid h
  have HGP := hid (And.intro h.plt hg)
  clear h ht hoc hg
  by_cases he : e2 = 0
  · subst he
    rw [if_pos rfl] at HR ⊢
    unfold SP at HR
    dsimp only at HR
    obtain ⟨⟨⟨k, i, xs⟩, E⟩, hd⟩ : ∃ d, decZ t = d := ⟨_, rfl⟩
    rw [hd]
    dsimp only
    by_cases hE : E = 0
    · subst hE
      rw [if_pos rfl]
      unfold SP
      dsimp only
      have HD := hid hd
      clear hd
      go_enter Try.func51, Try.ntmps51
      go_upto_region 2 with (first
        | (go_at_call 50
           refine HR.out.mono ?_
           rintro e w1 ⟨h1, rfl, h2⟩
           have H1 := hid (sb_start HH.out h1 h2)
           obtain ⟨v3, W3, hcv, hsl, hb3⟩ := conv_bytes w1 (mkStr t)
           rw [strBs_mkStr t HO.out.1] at hsl
           have H3 := hid (And.intro hsl (H1.out.below hb3))
           clear h1 h2 hsl hb3)
        | (go_at_call 72
           refine (decode_any v3 t W3 H3.out.1 HO.out.1 (by have := HO.out.2; omega)).mono ?_
           rintro e w4 ⟨rfl, hb4⟩
           rw [HD.out, decV, if_pos rfl]
           have H4 := hid (H3.out.2.below hb4)
           clear hb4))
      have H5 := hid (H4.out.below (below1 w4 (vo k i (mkStr xs))))
      have HN := hid (heap_alloc_new w4 (vo k i (mkStr xs)))
      have HQ := hid (lt_of H4.out.r2)
      generalize hW : w4.alloc (vo k i (mkStr xs)) = W5 at *
      clear hW
      obtain ⟨q0, q1, q2, -⟩ := vfacts HN.out
      obtain ⟨c0, c1, c2, cz⟩ := vfacts H5.out.r2
      go_wp2_with (first
        | (go_at_call 22; refine (binsist_ok _).mono ?_; rintro e w5 ⟨rfl, e5⟩; rw [e5]; clear e5 w5))
      obtain ⟨f1, f2, f3, -⟩ := H5.out.fin HGP.out.1 HGP.out.2 (.int .i64 k) (.int .i64 i) (.string (mkStr xs))
      refine bodyPost_ret (ret_agg Try.results51 rfl f1) rfl ?_
      exact ⟨f2, rfl, f3⟩
    · rw [if_neg hE]
      unfold SP
      dsimp only
      have HD := hid hd
      clear hd
      go_enter Try.func51, Try.ntmps51
      go_wp2_with (first
        | (go_at_call 50
           refine HR.out.mono ?_
           rintro e w1 ⟨h1, rfl, h2⟩
           have H1 := hid (sb_start HH.out h1 h2)
           obtain ⟨v3, W3, hcv, hsl, hb3⟩ := conv_bytes w1 (mkStr t)
           rw [strBs_mkStr t HO.out.1] at hsl
           have H3 := hid (And.intro hsl (H1.out.below hb3))
           clear h1 h2 hsl hb3)
        | (go_at_call 72
           refine (decode_any v3 t W3 H3.out.1 HO.out.1 (by have := HO.out.2; omega)).mono ?_
           rintro e w4 ⟨rfl, hb4⟩
           rw [HD.out, decV, if_neg hE]
           have H4 := hid (H3.out.2.below hb4)
           clear hb4)
        | (go_at_call 22; refine (binsist_no E hE _).mono ?_; rintro e w5 ⟨rfl, e5⟩; rw [e5]; clear e5 w5))
      exact ⟨rfl, (H4.out.below (below1 _ _)).kp, rfl⟩
  · rw [if_neg he] at HR ⊢
    unfold SP at HR ⊢
    dsimp only at HR ⊢
    go_enter Try.func51, Try.ntmps51
    go_wp2_with (first
      | (go_at_call 50
         refine HR.out.mono ?_
         rintro e w1 ⟨h1, rfl⟩
         have H1 := hid ((kept2 p w _ _).trans h1 (fun _ _ h => h))
         clear h1))
    exact ⟨rfl, H1.out, rfl⟩

/-- What a procedure's reading leaves. -/
def PP (p : Nat) (g : Option Nat) (bs : List Int) (w : World) (r : Except Int ((List Int × Int × List Ins) × Nat)) (e : Ending) (w' : World) : Prop :=
  Kept (fun k => k = p) w w' ∧ match r with
  | .ok ((nm, ar, xs), a) => ∃ cb, e = .returned (.agg #[.string (mkStr nm), .int .i64 ar, .slice (some ⟨cb, 0, none⟩) xs.length xs.length]) ∧ Rd w' p g bs a 0 ∧ CdAt w.heap.size w' (.slice (some ⟨cb, 0, none⟩) xs.length xs.length) xs
  | .error E => e = brefu E

def procX (bs : List Int) (most : Int) (a : Nat) : Except Int ((List Int × Int × List Ins) × Nat) :=
  if (takeZ 3 most bs a 0).2.2 = 0 then
    match decP (takeZ 3 most bs a 0).1.2 with
    | .error E => .error E
    | .ok r => .ok (r, (takeZ 3 most bs a 0).2.1)
  else .error (takeZ 3 most bs a 0).2.2

theorem cd_of {w : World} {B cb : Nat} {xs : List Ins} (hB : B ≤ cb) (co : ∀ (j : Nat) (x : Ins), xs[j]? = some x → InsAt w cb (j * 8) x) : CdAt B w (.slice (some ⟨cb, 0, none⟩) xs.length xs.length) xs :=
  ⟨_, _, rfl, Nat.le_refl _, fun _ => ⟨cb, 0, rfl, hB, fun j x hx => by rw [Nat.zero_add]; exact co j x hx⟩⟩

set_option maxRecDepth 100000 in
set_option maxHeartbeats 4000000 in
theorem sproc_any (p : Nat) (n : Int) (g : Option Nat) (bs : List Int) (a : Nat) (w : World) (h : Rd w p g bs a 0) (hg : ∀ k, g = some k → k < w.heap.size) (hn0 : -9223372036854775808 ≤ n) (hn1 : n < 9223372036854775808) :
    Calls Try.prog 49 #[sv p n] w (PP p g bs w (procX bs n a)) := by
  have HR := hid (stext_any p n n g bs a ((w.alloc (so p n)).alloc (po emp 0 (.slice none 0 0))) (h.below (below2 w _ _)) hn0 hn1)
  have hoc := takeZ_oct3 n bs a h.oct
  have hbl : bs.length ≤ 1000000000 := by obtain ⟨_, _, _, _, _, _, _, h⟩ := h; exact h
  unfold procX
  unfold rdX at HR
  obtain ⟨⟨⟨u, t⟩, a2, e2⟩, ht⟩ : ∃ t, takeZ 3 n bs a 0 = t := ⟨_, rfl⟩
  rw [ht] at HR hoc ⊢
  dsimp only at HR hoc ⊢
  have HO := hid hoc
  have HH := hid h
  have HGP := hid (And.intro h.plt hg)
  clear h ht hoc hg
  by_cases he : e2 = 0
  · subst he
    rw [if_pos rfl] at HR ⊢
    unfold SP at HR
    dsimp only at HR
    have HDD := hid (fun v W hW => pdecode_any v t W hW HO.out.1 (by have := HO.out.2; omega))
    cases hd : decP t with
    | ok r =>
      obtain ⟨nm, ar, xs⟩ := r
      rw [hd] at HDD
      unfold DPost at HDD
      unfold PP
      dsimp only at HDD ⊢
      clear hd
      go_enter Try.func49, Try.ntmps49
      go_upto_region 2 with (first
        | (go_at_call 50
           refine HR.out.mono ?_
           rintro e w1 ⟨h1, rfl, h2⟩
           have H1 := hid (sb_start HH.out h1 h2)
           obtain ⟨v3, W3, hcv, hsl, hb3⟩ := conv_bytes w1 (mkStr t)
           rw [strBs_mkStr t HO.out.1] at hsl
           have H3 := hid (And.intro hsl (H1.out.below hb3))
           clear h1 h2 hsl hb3)
        | (go_at_call 70
           refine (HDD.out v3 W3 H3.out.1).mono ?_
           rintro e w4 ⟨hb4, cb, rfl, hcb, hck, hco⟩
           have H4 := hid (And.intro (H3.out.2.below hb4) (And.intro (Nat.lt_of_lt_of_le (lt_of H3.out.2.r2) hcb) (And.intro (cd_of (Nat.le_refl cb) hco) hck)))
           clear hb4 hcb hck hco))
      have H5 := hid (H4.out.1.below (below1 w4 (po (mkStr nm) ar (.slice (some ⟨cb, 0, none⟩) xs.length xs.length))))
      have HN := hid (heap_alloc_new w4 (po (mkStr nm) ar (.slice (some ⟨cb, 0, none⟩) xs.length xs.length)))
      have HQ := hid (And.intro H4.out.2.1 (H4.out.2.2.1.same (Same.below (below1 w4 (po (mkStr nm) ar (.slice (some ⟨cb, 0, none⟩) xs.length xs.length))))))
      generalize hW : w4.alloc (po (mkStr nm) ar (.slice (some ⟨cb, 0, none⟩) xs.length xs.length)) = W5 at *
      clear hW H4 H3
      obtain ⟨q0, q1, q2, -⟩ := vfacts HN.out
      obtain ⟨c0, c1, c2, cz⟩ := vfacts H5.out.r2
      go_wp2_with (first
        | (go_at_call 22; refine (binsist_ok _).mono ?_; rintro e w5 ⟨rfl, e5⟩; rw [e5]; clear e5 w5))
      obtain ⟨f1, f2, f3, f4⟩ := H5.out.fin HGP.out.1 HGP.out.2 (.string (mkStr nm)) (.int .i64 ar) (.slice (some ⟨cb, 0, none⟩) xs.length xs.length)
      refine bodyPost_ret (ret24 Try.results49 rfl f1) rfl ?_
      have hcb := HQ.out.1
      exact ⟨f2, cb, rfl, f3, (HQ.out.2.same (Same.kept f4 (fun k h1 _ => by omega))).mono (by omega)⟩
    | error E =>
      rw [hd] at HDD
      unfold DPost at HDD
      unfold PP
      dsimp only at HDD ⊢
      have hE := decP_err _ _ hd
      clear hd
      go_enter Try.func49, Try.ntmps49
      go_wp2_with (first
        | (go_at_call 50
           refine HR.out.mono ?_
           rintro e w1 ⟨h1, rfl, h2⟩
           have H1 := hid (sb_start HH.out h1 h2)
           obtain ⟨v3, W3, hcv, hsl, hb3⟩ := conv_bytes w1 (mkStr t)
           rw [strBs_mkStr t HO.out.1] at hsl
           have H3 := hid (And.intro hsl (H1.out.below hb3))
           clear h1 h2 hsl hb3)
        | (go_at_call 70
           refine (HDD.out v3 W3 H3.out.1).mono ?_
           rintro e w4 ⟨hb4, rfl⟩
           have H4 := hid (H3.out.2.below hb4)
           clear hb4)
        | (go_at_call 22; refine (binsist_no E hE _).mono ?_; rintro e w5 ⟨rfl, e5⟩; rw [e5]; clear e5 w5))
      exact ⟨rfl, (H4.out.below (below1 _ _)).kp, rfl⟩
  · rw [if_neg he] at HR ⊢
    unfold SP at HR
    unfold PP
    dsimp only at HR ⊢
    go_enter Try.func49, Try.ntmps49
    go_wp2_with (first
      | (go_at_call 50
         refine HR.out.mono ?_
         rintro e w1 ⟨h1, rfl⟩
         have H1 := hid ((kept2 p w _ _).trans h1 (fun _ _ h => h))
         clear h1))
    exact ⟨rfl, H1.out, rfl⟩

end Go.Proofs.Ytdnlfacfleemeaa

namespace Go.Proofs.Ytdnlfacfleemeaa
open Go.RowKit Go.Lib

/-- What a transaction's reading leaves. -/
def TXP (p : Nat) (g : Option Nat) (bs : List Int) (w : World) (r : Except Int (Txd × Nat)) (e : Ending) (w' : World) : Prop :=
  Kept (fun k => k = p) w w' ∧ match r with
  | .ok (t, a) => ∃ S1 S2, e = .returned (txv t S1 S2) ∧ CdAt w.heap.size w' S1 t.xs ∧ VsAt w.heap.size w' S2 t.vs ∧ Rd w' p g bs a 0
  | .error E => e = brefu E

abbrev tz (k : Int) (nm : ByteArray) (S2 : Value) : Obj := .cells #[.int .i64 k, .string emp, .int .i64 0, .slice none 0 0, .string nm, S2] 30

set_option maxRecDepth 100000 in
theorem load30t {w : World} {r : Nat} {a b c d e f : Value} (hb : w.heap[r]? = some (.cells #[a, b, c, d, e, f] 30 (0, 0))) : (loadVar 30 ⟨r, 0, none⟩).run Try.prog w = .ok (.agg #[a, b, c, d, e, f]) w := by
  obtain ⟨c0, c1, c2, c3, c4, c5, _⟩ := vfacts6 hb
  simp [go_sem, c0, c1, c2, c3, c4, c5]

theorem ret30 {fn : Func} {p : Tmp} (h : fn.results = #[.cell p 30]) {tmps : Array Value} {r : Nat} {w : World} {a b c d e f : Value} (ht : tmps.getD p undef = .pointer (some ⟨r, 0, none⟩)) (hb : w.heap[r]? = some (.cells #[a, b, c, d, e, f] 30 (0, 0))) :
    (results fn tmps).run Try.prog w = .ok (.agg #[a, b, c, d, e, f]) w := by
  have ht2 := ht
  simp only [Array.getD_eq_getD_getElem?] at ht2
  simp only [results, h]
  simp [ht2, load30t hb, asAddr]

abbrev put6 (w : World) (r : Nat) (a b c d e f : Value) : World :=
  (((((w.setCell ⟨r, 0, none⟩ a).setCell ⟨r, 1, none⟩ b).setCell ⟨r, 2, none⟩ c).setCell ⟨r, 3, none⟩ d).setCell ⟨r, 4, none⟩ e).setCell ⟨r, 5, none⟩ f

theorem set6 {w : World} {r : Nat} {a0 b0 c0 d0 e0 f0 : Value} {t : TypeId} (h : w.heap[r]? = some (.cells #[a0, b0, c0, d0, e0, f0] t (0, 0))) (a b c d e f : Value) :
    (put6 w r a b c d e f).heap[r]? = some (.cells #[a, b, c, d, e, f] t (0, 0)) := by
  simp [put6, World.setCell, Array.getElem?_modify, h]

theorem kept6 (w : World) (r : Nat) (a b c d e f : Value) : Kept (fun k => k = r) w (put6 w r a b c d e f) :=
  ((((((Kept.refl (fun k => k = r) w).setCell (p := ⟨r, 0, none⟩) (fun _ => rfl) _).setCell (p := ⟨r, 1, none⟩) (fun _ => rfl) _).setCell (p := ⟨r, 2, none⟩) (fun _ => rfl) _).setCell (p := ⟨r, 3, none⟩) (fun _ => rfl) _).setCell (p := ⟨r, 4, none⟩) (fun _ => rfl) _).setCell (p := ⟨r, 5, none⟩) (fun _ => rfl) _

/-- While a transaction is taken: the source's box, the result's, its own. -/
structure St (w W : World) (p : Nat) (n : Int) (g : Option Nat) (bs : List Int) (a : Nat) (q : Nat) (o : Obj) : Prop where
  sb : Sb w W p n g bs a (tz 0 emp (.slice none 0 0))
  r3 : W.heap[q]? = some o
  lq : w.heap.size + 1 < q

theorem St.below {w W W' : World} {p : Nat} {n : Int} {g : Option Nat} {bs : List Int} {a q : Nat} {o : Obj} (h : St w W p n g bs a q o) (hb : Below W.heap.size W W') : St w W' p n g bs a q o :=
  ⟨h.sb.below hb, blk_of hb h.r3 (lt_of h.r3), h.lq⟩

/-- A call that leaves all but the Reader. -/
theorem St.read {w W W' : World} {p : Nat} {n : Int} {g : Option Nat} {bs : List Int} {a a2 q : Nat} {o : Obj} (h : St w W p n g bs a q o) (hp : p < w.heap.size) (hk : Kept (fun k => k = p) W W') (hr : Rd W' p g bs a2 0) : St w W' p n g bs a2 q o := by
  have := h.lq
  exact ⟨⟨(hk.block _ (lt_of h.sb.r1) (by omega)).trans h.sb.r1, (hk.block _ (lt_of h.sb.r2) (by omega)).trans h.sb.r2, h.sb.kp.trans hk (fun _ _ h => h), hr⟩, (hk.block _ (lt_of h.r3) (by omega)).trans h.r3, h.lq⟩

/-- Its own block is written. -/
theorem St.put {w W W' : World} {p : Nat} {n : Int} {g : Option Nat} {bs : List Int} {a q : Nat} {o o' : Obj} (h : St w W p n g bs a q o) (hp : p < w.heap.size) (hg : ∀ k, g = some k → k < w.heap.size) (hk : Kept (fun k => k = q) W W') (ho : W'.heap[q]? = some o') : St w W' p n g bs a q o' := by
  have := h.lq
  exact ⟨⟨(hk.block _ (lt_of h.sb.r1) (by omega)).trans h.sb.r1, (hk.block _ (lt_of h.sb.r2) (by omega)).trans h.sb.r2, h.sb.kp.trans hk (fun i hi e => by omega), h.sb.rd.kept hk (by omega) (fun k hk2 e => by have := hg k hk2; omega)⟩, ho, h.lq⟩

theorem st_start {w W : World} {p : Nat} {n : Int} {g : Option Nat} {bs : List Int} {a a2 : Nat} {o : Obj} (h : Rd w p g bs a 0) (hk : Kept (fun k => k = p) ((w.alloc (so p n)).alloc (tz 0 emp (.slice none 0 0))) W) (hr : Rd W p g bs a2 0) :
    St w (W.alloc o) p n g bs a2 W.heap.size o := by
  have hs := sb_start h hk hr
  exact ⟨hs.below (below1 W o), heap_alloc_new W o, lt_of hs.r2⟩

/-- The end: the result's box is written. -/
theorem St.fin {w W : World} {p : Nat} {n : Int} {g : Option Nat} {bs : List Int} {a q : Nat} {o : Obj} (h : St w W p n g bs a q o) (hp : p < w.heap.size) (hg : ∀ k, g = some k → k < w.heap.size) (x0 x1 x2 x3 x4 x5 : Value) :
    (put6 W (w.heap.size + 1) x0 x1 x2 x3 x4 x5).heap[w.heap.size + 1]? = some (.cells #[x0, x1, x2, x3, x4, x5] 30 (0, 0)) ∧ Kept (fun k => k = p) w (put6 W (w.heap.size + 1) x0 x1 x2 x3 x4 x5) ∧ Rd (put6 W (w.heap.size + 1) x0 x1 x2 x3 x4 x5) p g bs a 0 ∧ Same (w.heap.size + 2) W (put6 W (w.heap.size + 1) x0 x1 x2 x3 x4 x5) := by
  have hk := kept6 W (w.heap.size + 1) x0 x1 x2 x3 x4 x5
  exact ⟨set6 h.sb.r2 _ _ _ _ _ _, h.sb.kp.trans hk (fun i hi e => by omega), h.sb.rd.kept hk (by omega) (fun k hk2 e => by have := hg k hk2; omega), Same.kept hk (fun k h1 _ => by omega)⟩

theorem def_set {W : World} {q : Nat} {k : Int} {nm : ByteArray} {S2 : Value} (h : W.heap[q]? = some (tz k nm S2)) (x y z : Value) :
    (((W.setCell ⟨q, 1, none⟩ x).setCell ⟨q, 2, none⟩ y).setCell ⟨q, 3, none⟩ z).heap[q]? = some (.cells #[.int .i64 k, x, y, z, .string nm, S2] 30 (0, 0)) ∧ Kept (fun k => k = q) W (((W.setCell ⟨q, 1, none⟩ x).setCell ⟨q, 2, none⟩ y).setCell ⟨q, 3, none⟩ z) :=
  ⟨by simp [World.setCell, Array.getElem?_modify, h], (((Kept.refl (fun k => k = q) W).setCell (p := ⟨q, 1, none⟩) (fun _ => rfl) _).setCell (p := ⟨q, 2, none⟩) (fun _ => rfl) _).setCell (p := ⟨q, 3, none⟩) (fun _ => rfl) _⟩

set_option maxRecDepth 100000 in
set_option maxHeartbeats 4000000 in
theorem txn_err (p : Nat) (g : Option Nat) (bs : List Int) (a : Nat) (w : World) (h : Rd w p g bs a 0) (hE : (takeZ 0 1 bs a 0).2.2 ≠ 0) :
    Calls Try.prog 36 #[sv p bs.length] w (TXP p g bs w (.error (takeZ 0 1 bs a 0).2.2)) := by
  have HR := hid (skind_any p bs.length g bs a ((w.alloc (so p bs.length)).alloc (tz 0 emp (.slice none 0 0))) (h.below (below2 w _ _)))
  unfold rdX at HR
  rw [if_neg hE] at HR
  unfold SP at HR
  unfold TXP
  dsimp only at HR ⊢
  generalize (takeZ 0 1 bs a 0).2.2 = E at *
  clear h hE
  go_enter Try.func36, Try.ntmps36
  go_wp2_with (first
    | (go_at_call 48
       refine HR.out.mono ?_
       rintro e w1 ⟨h1, rfl⟩
       have H1 := hid ((kept2 p w _ _).trans h1 (fun _ _ h => h))
       clear h1))
  exact ⟨rfl, H1.out, rfl⟩

set_option maxRecDepth 100000 in
set_option maxHeartbeats 4000000 in
theorem txn_none (p : Nat) (g : Option Nat) (bs : List Int) (a : Nat) (w : World) (h : Rd w p g bs a 0) (hE : (takeZ 0 1 bs a 0).2.2 = 0) (h1 : (takeZ 0 1 bs a 0).1.1 ≠ 1) (h2 : (takeZ 0 1 bs a 0).1.1 ≠ 2) :
    Calls Try.prog 36 #[sv p bs.length] w (TXP p g bs w (.error 1)) := by
  have HR := hid (skind_any p bs.length g bs a ((w.alloc (so p bs.length)).alloc (tz 0 emp (.slice none 0 0))) (h.below (below2 w _ _)))
  unfold rdX at HR
  rw [if_pos hE] at HR
  unfold SP at HR
  unfold TXP
  dsimp only at HR ⊢
  generalize (takeZ 0 1 bs a 0).1.1 = k at *
  generalize (takeZ 0 1 bs a 0).2.1 = a2 at *
  have e1 : (k == 1) = false := by simpa using h1
  have e2 : (k == 2) = false := by simpa using h2
  clear h hE h1 h2
  go_enter Try.func36, Try.ntmps36
  go_wp2_with (first
    | (go_at_call 48
       refine HR.out.mono ?_
       rintro e w1 ⟨h1, rfl, -⟩
       have H1 := hid (((kept2 p w _ _).trans h1 (fun _ _ h => h)).alloc (tz k emp (.slice none 0 0)))
       clear h1))
  exact ⟨rfl, H1.out, rfl⟩

set_option maxRecDepth 100000 in
set_option maxHeartbeats 4000000 in
theorem txn_def (p : Nat) (g : Option Nat) (bs : List Int) (a : Nat) (w : World) (h : Rd w p g bs a 0) (hg : ∀ k, g = some k → k < w.heap.size) (hE : (takeZ 0 1 bs a 0).2.2 = 0) (hk1 : (takeZ 0 1 bs a 0).1.1 = 1) :
    Calls Try.prog 36 #[sv p bs.length] w (TXP p g bs w (tkDef bs (takeZ 0 1 bs a 0).2.1)) := by
  have HR := hid (skind_any p bs.length g bs a ((w.alloc (so p bs.length)).alloc (tz 0 emp (.slice none 0 0))) (h.below (below2 w _ _)))
  have hbl : bs.length ≤ 1000000000 := by obtain ⟨_, _, _, _, _, _, _, h⟩ := h; exact h
  unfold rdX at HR
  rw [if_pos hE] at HR
  unfold SP at HR
  dsimp only at HR
  rw [hk1] at HR
  generalize (takeZ 0 1 bs a 0).2.1 = a2 at *
  have HP := hid (fun W (hr : Rd W p g bs a2 0) (hz : w.heap.size ≤ W.heap.size) => sproc_any p bs.length g bs a2 W hr (fun k hk => by have := hg k hk; omega) (by omega) (by omega))
  unfold procX at HP
  unfold tkDef
  obtain ⟨⟨⟨u, t⟩, a3, e3⟩, ht⟩ : ∃ t, takeZ 3 bs.length bs a2 0 = t := ⟨_, rfl⟩
  rw [ht] at HP ⊢
  dsimp only at HP ⊢
  have HH := hid h
  have HGP := hid (And.intro h.plt hg)
  clear h hE hk1 ht hg
  by_cases he : e3 = 0
  · subst he
    rw [if_pos rfl] at HP ⊢
    cases hd : decP t with
    | error E =>
      rw [hd] at HP
      unfold PP at HP
      unfold TXP
      dsimp only at HP ⊢
      clear hd
      go_enter Try.func36, Try.ntmps36
      go_wp2_with (first
        | (go_at_call 48
           refine HR.out.mono ?_
           rintro e w1 ⟨h1, rfl, h2⟩
           have H1 := hid (st_start (o := tz 1 emp (.slice none 0 0)) HH.out h1 h2)
           obtain ⟨p0, p1, -⟩ := vfacts2 H1.out.sb.r1
           clear h1 h2)
        | (go_at_call 49
           refine (HP.out _ H1.out.sb.rd (by have := H1.out.sb.kp.size; omega)).mono ?_
           rintro e w2 ⟨h3, rfl⟩
           have H2 := hid (H1.out.sb.kp.trans h3 (fun _ _ h => h))
           clear h3))
      exact ⟨rfl, H2.out, rfl⟩
    | ok r =>
      obtain ⟨nm, ar, xs⟩ := r
      rw [hd] at HP
      unfold PP at HP
      unfold TXP
      dsimp only at HP ⊢
      clear hd
      go_enter Try.func36, Try.ntmps36
      go_upto_region 14 with (first
        | (go_at_call 48
           refine HR.out.mono ?_
           rintro e w1 ⟨h1, rfl, h2⟩
           have H1 := hid (st_start (o := tz 1 emp (.slice none 0 0)) HH.out h1 h2)
           obtain ⟨p0, p1, -⟩ := vfacts2 H1.out.sb.r1
           clear h1 h2)
        | (go_at_call 49
           refine (HP.out _ H1.out.sb.rd (by have := H1.out.sb.kp.size; omega)).mono ?_
           rintro e w2 ⟨h3, cb, rfl, h4, h5⟩
           have H2 := hid (And.intro (H1.out.read HGP.out.1 h3 h4) h5)
           obtain ⟨q0, q1, q2, q3, q4, q5, qz⟩ := vfacts6 H2.out.1.r3
           clear h3 h4 h5))
      have HQ := hid (def_set H2.out.1.r3 (.string (mkStr nm)) (.int .i64 ar) (.slice (some ⟨cb, 0, none⟩) xs.length xs.length))
      have H3 := hid (H2.out.1.put HGP.out.1 HGP.out.2 HQ.out.2 HQ.out.1)
      have H4 := hid ((H2.out.2.same (Same.kept HQ.out.2 (fun k h1 _ => by have := lt_of H1.out.r3; omega))))
      generalize hW : ((w2.setCell ⟨w1.heap.size, 1, none⟩ (.string (mkStr nm))).setCell ⟨w1.heap.size, 2, none⟩ (.int .i64 ar)).setCell ⟨w1.heap.size, 3, none⟩ (.slice (some ⟨cb, 0, none⟩) xs.length xs.length) = W3 at *
      have HZ := hid (show w.heap.size + 2 ≤ (w1.alloc (tz 1 emp (.slice none 0 0))).heap.size by have := lt_of H1.out.r3; have := H1.out.lq; omega)
      clear hW H2 HQ q0 q1 q2 q3 q4 q5 qz
      obtain ⟨q0, q1, q2, q3, q4, q5, qz⟩ := vfacts6 H3.out.r3
      obtain ⟨r0, r1, r2, r3, r4, r5, rz⟩ := vfacts6 H3.out.sb.r2
      have hl := H3.out.lq
      go_wp2
      obtain ⟨f1, f2, f3, f4⟩ := H3.out.fin HGP.out.1 HGP.out.2 (.int .i64 1) (.string (mkStr nm)) (.int .i64 ar) (.slice (some ⟨cb, 0, none⟩) xs.length xs.length) (.string emp) (.slice none 0 0)
      refine bodyPost_ret (ret30 Try.results36 rfl f1) rfl ?_
      exact ⟨f2, _, _, rfl, ((H4.out.mono HZ.out).same f4).mono (by omega), ⟨none, 0, rfl, Nat.le_refl _, fun h => absurd rfl h⟩, f3⟩
  · rw [if_neg he] at HP ⊢
    unfold PP at HP
    unfold TXP
    dsimp only at HP ⊢
    go_enter Try.func36, Try.ntmps36
    go_wp2_with (first
      | (go_at_call 48
         refine HR.out.mono ?_
         rintro e w1 ⟨h1, rfl, h2⟩
         have H1 := hid (st_start (o := tz 1 emp (.slice none 0 0)) HH.out h1 h2)
         obtain ⟨p0, p1, -⟩ := vfacts2 H1.out.sb.r1
         clear h1 h2)
      | (go_at_call 49
         refine (HP.out _ H1.out.sb.rd (by have := H1.out.sb.kp.size; omega)).mono ?_
         rintro e w2 ⟨h3, rfl⟩
         have H2 := hid (H1.out.sb.kp.trans h3 (fun _ _ h => h))
         clear h3))
    exact ⟨rfl, H2.out, rfl⟩

end Go.Proofs.Ytdnlfacfleemeaa
