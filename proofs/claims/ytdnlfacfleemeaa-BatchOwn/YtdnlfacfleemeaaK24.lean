import Derived.Test.YtdnlfacfleemeaaK17
import Derived.Test.YtdnlfacfleemeaaK18
import Derived.RegionDies
namespace Go.Proofs.Ytdnlfacfleemeaa.O
open Go.RowKit Go.Lib

/-- What a procedure's reading leaves. -/
def PP (p : Nat) (g : Option Nat) (bs : List Int) (w : World) (r : Except Int ((List Int × Int × List Ins) × Nat)) (e : Ending) (w' : World) : Prop :=
  Kept (fun k => k = p) w w' ∧ match r with
  | .ok ((nm, ar, xs), a) => ∃ cb, e = .returned (.agg #[.string (mkStr nm), .int .i64 ar, .slice (some ⟨cb, 0, none⟩) xs.length xs.length]) ∧ Rd w' p g bs a 0 ∧ CdAt w.heap.size w' (.slice (some ⟨cb, 0, none⟩) xs.length xs.length) xs ∧ (∃ cs, w'.heap[cb]? = some (.cells cs 52 (0, 0))) ∧ w.heap.size ≤ cb
  | .error E => e = brefu E

set_option maxRecDepth 100000 in
set_option maxHeartbeats 4000000 in
theorem sproc_any (p : Nat) (n : Int) (g : Option Nat) (bs : List Int) (a : Nat) (w : World) (h : Rd w p g bs a 0) (hg : ∀ k, g = some k → k < w.heap.size) (hn0 : -9223372036854775808 ≤ n) (hn1 : n < 9223372036854775808) :
    Calls Try.prog 49 #[sv p n] w (PP p g bs w (procX bs n a)) := by
  have HR := hid (stext_any p n n g bs a ((w.alloc (so p n)).alloc (po emp 0 (.slice none 0 0))) (h.below (below2 w _ _)) hn0 hn1)
  have hoc := takeZ_oct3 n bs a h.oct
  have hbl : bs.length ≤ 1000000000 := by obtain ⟨_, _, _, _, _, _, _, h⟩ := h; exact h
  unfold procX
  unfold rdX at HR
  obtain ⟨⟨⟨u, t⟩, a2, e2⟩, ht⟩ : ∃ t, takeZ 3 n bs a 0 = t := ⟨_, rfl⟩
  rw [ht] at HR hoc ⊢
  dsimp only at HR hoc ⊢
  have HO := hid hoc
  have HH := hid h
  have HGP := hid (And.intro h.plt hg)
  clear h ht hoc hg
  by_cases he : e2 = 0
  · subst he
    rw [if_pos rfl] at HR ⊢
    unfold SP at HR
    dsimp only at HR
    have HDD := hid (fun v W hW => pdecode_any v t W hW HO.out.1 (by have := HO.out.2; omega))
    cases hd : decP t with
    | ok r =>
      obtain ⟨nm, ar, xs⟩ := r
      rw [hd] at HDD
      unfold DPost at HDD
      unfold PP
      dsimp only at HDD ⊢
      clear hd
      go_enter Try.func49, Try.ntmps49
      go_upto_region 2 with (first
        | (go_at_call 50
           refine HR.out.mono ?_
           rintro e w1 ⟨h1, rfl, h2⟩
           have H1 := hid (sb_start HH.out h1 h2)
           obtain ⟨v3, W3, hcv, hsl, hb3⟩ := conv_bytes w1 (mkStr t)
           rw [strBs_mkStr t HO.out.1] at hsl
           have H3 := hid (And.intro hsl (H1.out.below hb3))
           clear h1 h2 hsl hb3)
        | (go_at_call 70
           refine (HDD.out v3 W3 H3.out.1).mono ?_
           rintro e w4 ⟨hb4, cb, rfl, hcb, hck, hco⟩
           have H4 := hid (And.intro (H3.out.2.below hb4) (And.intro (Nat.lt_of_lt_of_le (lt_of H3.out.2.r2) hcb) (And.intro (cd_of (Nat.le_refl cb) hco) hck)))
           clear hb4 hcb hck hco))
      have H5 := hid (H4.out.1.below (below1 w4 (po (mkStr nm) ar (.slice (some ⟨cb, 0, none⟩) xs.length xs.length))))
      have HN := hid (heap_alloc_new w4 (po (mkStr nm) ar (.slice (some ⟨cb, 0, none⟩) xs.length xs.length)))
      have HQ := hid (And.intro H4.out.2.1 (H4.out.2.2.1.same (Same.below (below1 w4 (po (mkStr nm) ar (.slice (some ⟨cb, 0, none⟩) xs.length xs.length))))))
      have HQ2 := hid (show ∃ cs, (w4.alloc (po (mkStr nm) ar (.slice (some ⟨cb, 0, none⟩) xs.length xs.length))).heap[cb]? = some (.cells cs 52 (0, 0)) from H4.out.2.2.2.imp fun cs h => blk_of (below1 w4 _) h (lt_of h))
      generalize hW : w4.alloc (po (mkStr nm) ar (.slice (some ⟨cb, 0, none⟩) xs.length xs.length)) = W5 at *
      clear hW H4 H3
      obtain ⟨q0, q1, q2, -⟩ := vfacts HN.out
      obtain ⟨c0, c1, c2, cz⟩ := vfacts H5.out.r2
      go_wp2_with (first
        | (go_at_call 22; refine (binsist_ok _).mono ?_; rintro e w5 ⟨rfl, e5⟩; rw [e5]; clear e5 w5))
      obtain ⟨f1, f2, f3, f4⟩ := H5.out.fin HGP.out.1 HGP.out.2 (.string (mkStr nm)) (.int .i64 ar) (.slice (some ⟨cb, 0, none⟩) xs.length xs.length)
      refine bodyPost_ret (ret24 Try.results49 rfl f1) rfl ?_
      have hcb := HQ.out.1
      exact ⟨f2, cb, rfl, f3, (HQ.out.2.same (Same.kept f4 (fun k h1 _ => by omega))).mono (by omega), HQ2.out.imp (fun cs h => (f4.block cb (lt_of h) (by omega)).trans h), by omega⟩
    | error E =>
      rw [hd] at HDD
      unfold DPost at HDD
      unfold PP
      dsimp only at HDD ⊢
      have hE := decP_err _ _ hd
      clear hd
      go_enter Try.func49, Try.ntmps49
      go_wp2_with (first
        | (go_at_call 50
           refine HR.out.mono ?_
           rintro e w1 ⟨h1, rfl, h2⟩
           have H1 := hid (sb_start HH.out h1 h2)
           obtain ⟨v3, W3, hcv, hsl, hb3⟩ := conv_bytes w1 (mkStr t)
           rw [strBs_mkStr t HO.out.1] at hsl
           have H3 := hid (And.intro hsl (H1.out.below hb3))
           clear h1 h2 hsl hb3)
        | (go_at_call 70
           refine (HDD.out v3 W3 H3.out.1).mono ?_
           rintro e w4 ⟨hb4, rfl⟩
           have H4 := hid (H3.out.2.below hb4)
           clear hb4)
        | (go_at_call 22; refine (binsist_no E hE _).mono ?_; rintro e w5 ⟨rfl, e5⟩; rw [e5]; clear e5 w5))
      exact ⟨rfl, (H4.out.below (below1 _ _)).kp, rfl⟩
  · rw [if_neg he] at HR ⊢
    unfold SP at HR
    unfold PP
    dsimp only at HR ⊢
    go_enter Try.func49, Try.ntmps49
    go_wp2_with (first
      | (go_at_call 50
         refine HR.out.mono ?_
         rintro e w1 ⟨h1, rfl⟩
         have H1 := hid ((kept2 p w _ _).trans h1 (fun _ _ h => h))
         clear h1))
    exact ⟨rfl, H1.out, rfl⟩

end Go.Proofs.Ytdnlfacfleemeaa.O

namespace Go.Proofs.Ytdnlfacfleemeaa.O
open Go.RowKit Go.Lib

/-- A list in one block of its own, made since w. -/
def Ow (w w' : World) (e : TypeId) (S : Value) (l : Nat) : Prop := ∃ ao, S = .slice ao l l ∧ (l ≠ 0 → ∃ b cs, ao = some ⟨b, 0, none⟩ ∧ w.heap.size ≤ b ∧ w'.heap[b]? = some (.cells cs e (0, 0)))

/-- What a transaction's reading leaves. -/
def TXP (p : Nat) (g : Option Nat) (bs : List Int) (w : World) (r : Except Int (Txd × Nat)) (e : Ending) (w' : World) : Prop :=
  Kept (fun k => k = p) w w' ∧ match r with
  | .ok (t, a) => ∃ S1 S2, e = .returned (txv t S1 S2) ∧ CdAt w.heap.size w' S1 t.xs ∧ VsAt w.heap.size w' S2 t.vs ∧ Rd w' p g bs a 0 ∧ Ow w w' 52 S1 t.xs.length ∧ Ow w w' 50 S2 t.vs.length
  | .error E => e = brefu E

set_option maxRecDepth 100000 in
set_option maxHeartbeats 4000000 in
theorem txn_err (p : Nat) (g : Option Nat) (bs : List Int) (a : Nat) (w : World) (h : Rd w p g bs a 0) (hE : (takeZ 0 1 bs a 0).2.2 ≠ 0) :
    Calls Try.prog 36 #[sv p bs.length] w (TXP p g bs w (.error (takeZ 0 1 bs a 0).2.2)) := by
  have HR := hid (skind_any p bs.length g bs a ((w.alloc (so p bs.length)).alloc (tz 0 emp (.slice none 0 0))) (h.below (below2 w _ _)))
  unfold rdX at HR
  rw [if_neg hE] at HR
  unfold SP at HR
  unfold TXP
  dsimp only at HR ⊢
  generalize (takeZ 0 1 bs a 0).2.2 = E at *
  clear h hE
  go_enter Try.func36, Try.ntmps36
  go_wp2_with (first
    | (go_at_call 48
       refine HR.out.mono ?_
       rintro e w1 ⟨h1, rfl⟩
       have H1 := hid ((kept2 p w _ _).trans h1 (fun _ _ h => h))
       clear h1))
  exact ⟨rfl, H1.out, rfl⟩

set_option maxRecDepth 100000 in
set_option maxHeartbeats 4000000 in
theorem txn_none (p : Nat) (g : Option Nat) (bs : List Int) (a : Nat) (w : World) (h : Rd w p g bs a 0) (hE : (takeZ 0 1 bs a 0).2.2 = 0) (h1 : (takeZ 0 1 bs a 0).1.1 ≠ 1) (h2 : (takeZ 0 1 bs a 0).1.1 ≠ 2) :
    Calls Try.prog 36 #[sv p bs.length] w (TXP p g bs w (.error 1)) := by
  have HR := hid (skind_any p bs.length g bs a ((w.alloc (so p bs.length)).alloc (tz 0 emp (.slice none 0 0))) (h.below (below2 w _ _)))
  unfold rdX at HR
  rw [if_pos hE] at HR
  unfold SP at HR
  unfold TXP
  dsimp only at HR ⊢
  generalize (takeZ 0 1 bs a 0).1.1 = k at *
  generalize (takeZ 0 1 bs a 0).2.1 = a2 at *
  have e1 : (k == 1) = false := by simpa using h1
  have e2 : (k == 2) = false := by simpa using h2
  clear h hE h1 h2
  go_enter Try.func36, Try.ntmps36
  go_wp2_with (first
    | (go_at_call 48
       refine HR.out.mono ?_
       rintro e w1 ⟨h1, rfl, -⟩
       have H1 := hid (((kept2 p w _ _).trans h1 (fun _ _ h => h)).alloc (tz k emp (.slice none 0 0)))
       clear h1))
  exact ⟨rfl, H1.out, rfl⟩

set_option maxRecDepth 100000 in
set_option maxHeartbeats 4000000 in
theorem txn_def (p : Nat) (g : Option Nat) (bs : List Int) (a : Nat) (w : World) (h : Rd w p g bs a 0) (hg : ∀ k, g = some k → k < w.heap.size) (hE : (takeZ 0 1 bs a 0).2.2 = 0) (hk1 : (takeZ 0 1 bs a 0).1.1 = 1) :
    Calls Try.prog 36 #[sv p bs.length] w (TXP p g bs w (tkDef bs (takeZ 0 1 bs a 0).2.1)) := by
  have HR := hid (skind_any p bs.length g bs a ((w.alloc (so p bs.length)).alloc (tz 0 emp (.slice none 0 0))) (h.below (below2 w _ _)))
  have hbl : bs.length ≤ 1000000000 := by obtain ⟨_, _, _, _, _, _, _, h⟩ := h; exact h
  unfold rdX at HR
  rw [if_pos hE] at HR
  unfold SP at HR
  dsimp only at HR
  rw [hk1] at HR
  generalize (takeZ 0 1 bs a 0).2.1 = a2 at *
  have HP := hid (fun W (hr : Rd W p g bs a2 0) (hz : w.heap.size ≤ W.heap.size) => sproc_any p bs.length g bs a2 W hr (fun k hk => by have := hg k hk; omega) (by omega) (by omega))
  unfold procX at HP
  unfold tkDef
  obtain ⟨⟨⟨u, t⟩, a3, e3⟩, ht⟩ : ∃ t, takeZ 3 bs.length bs a2 0 = t := ⟨_, rfl⟩
  rw [ht] at HP ⊢
  dsimp only at HP ⊢
  have HH := hid h
  have HGP := hid (And.intro h.plt hg)
  clear h hE hk1 ht hg
  by_cases he : e3 = 0
  · subst he
    rw [if_pos rfl] at HP ⊢
    cases hd : decP t with
    | error E =>
      rw [hd] at HP
      unfold PP at HP
      unfold TXP
      dsimp only at HP ⊢
      clear hd
      go_enter Try.func36, Try.ntmps36
      go_wp2_with (first
        | (go_at_call 48
           refine HR.out.mono ?_
           rintro e w1 ⟨h1, rfl, h2⟩
           have H1 := hid (st_start (o := tz 1 emp (.slice none 0 0)) HH.out h1 h2)
           obtain ⟨p0, p1, -⟩ := vfacts2 H1.out.sb.r1
           clear h1 h2)
        | (go_at_call 49
           refine (HP.out _ H1.out.sb.rd (by have := H1.out.sb.kp.size; omega)).mono ?_
           rintro e w2 ⟨h3, rfl⟩
           have H2 := hid (H1.out.sb.kp.trans h3 (fun _ _ h => h))
           clear h3))
      exact ⟨rfl, H2.out, rfl⟩
    | ok r =>
      obtain ⟨nm, ar, xs⟩ := r
      rw [hd] at HP
      unfold PP at HP
      unfold TXP
      dsimp only at HP ⊢
      clear hd
      go_enter Try.func36, Try.ntmps36
      go_upto_region 14 with (first
        | (go_at_call 48
           refine HR.out.mono ?_
           rintro e w1 ⟨h1, rfl, h2⟩
           have H1 := hid (st_start (o := tz 1 emp (.slice none 0 0)) HH.out h1 h2)
           obtain ⟨p0, p1, -⟩ := vfacts2 H1.out.sb.r1
           clear h1 h2)
        | (go_at_call 49
           refine (HP.out _ H1.out.sb.rd (by have := H1.out.sb.kp.size; omega)).mono ?_
           rintro e w2 ⟨h3, cb, rfl, h4, h5, h6, h7⟩
           have H6 := hid (And.intro h6 h7)
           have H2 := hid (And.intro (H1.out.read HGP.out.1 h3 h4) h5)
           obtain ⟨q0, q1, q2, q3, q4, q5, qz⟩ := vfacts6 H2.out.1.r3
           clear h3 h4 h5 h6 h7))
      have HQ := hid (def_set H2.out.1.r3 (.string (mkStr nm)) (.int .i64 ar) (.slice (some ⟨cb, 0, none⟩) xs.length xs.length))
      have H3 := hid (H2.out.1.put HGP.out.1 HGP.out.2 HQ.out.2 HQ.out.1)
      have H4 := hid ((H2.out.2.same (Same.kept HQ.out.2 (fun k h1 _ => by have := lt_of H1.out.r3; omega))))
      have H7 := hid (show ∃ cs, (((w2.setCell ⟨w1.heap.size, 1, none⟩ (.string (mkStr nm))).setCell ⟨w1.heap.size, 2, none⟩ (.int .i64 ar)).setCell ⟨w1.heap.size, 3, none⟩ (.slice (some ⟨cb, 0, none⟩) xs.length xs.length)).heap[cb]? = some (.cells cs 52 (0, 0)) from H6.out.1.imp fun cs h => (HQ.out.2.block cb (lt_of h) (by have := H6.out.2; simp at this; omega)).trans h)
      have hcb := H6.out.2
      generalize hW : ((w2.setCell ⟨w1.heap.size, 1, none⟩ (.string (mkStr nm))).setCell ⟨w1.heap.size, 2, none⟩ (.int .i64 ar)).setCell ⟨w1.heap.size, 3, none⟩ (.slice (some ⟨cb, 0, none⟩) xs.length xs.length) = W3 at *
      have HZ := hid (show w.heap.size + 2 ≤ (w1.alloc (tz 1 emp (.slice none 0 0))).heap.size by have := lt_of H1.out.r3; have := H1.out.lq; omega)
      clear hW H2 HQ q0 q1 q2 q3 q4 q5 qz
      obtain ⟨q0, q1, q2, q3, q4, q5, qz⟩ := vfacts6 H3.out.r3
      obtain ⟨r0, r1, r2, r3, r4, r5, rz⟩ := vfacts6 H3.out.sb.r2
      have hl := H3.out.lq
      go_wp2
      obtain ⟨f1, f2, f3, f4⟩ := H3.out.fin HGP.out.1 HGP.out.2 (.int .i64 1) (.string (mkStr nm)) (.int .i64 ar) (.slice (some ⟨cb, 0, none⟩) xs.length xs.length) (.string emp) (.slice none 0 0)
      refine bodyPost_ret (ret30 Try.results36 rfl f1) rfl ?_
      obtain ⟨cs7, h7⟩ := H7.out
      have hz := HZ.out
      exact ⟨f2, _, _, rfl, ((H4.out.mono HZ.out).same f4).mono (by omega), ⟨none, 0, rfl, Nat.le_refl _, fun h => absurd rfl h⟩, f3, ⟨_, rfl, fun _ => ⟨cb, cs7, rfl, by omega, (f4 cb (by omega) (lt_of h7)).trans h7⟩⟩, ⟨none, rfl, fun h => absurd rfl h⟩⟩
  · rw [if_neg he] at HP ⊢
    unfold PP at HP
    unfold TXP
    dsimp only at HP ⊢
    go_enter Try.func36, Try.ntmps36
    go_wp2_with (first
      | (go_at_call 48
         refine HR.out.mono ?_
         rintro e w1 ⟨h1, rfl, h2⟩
         have H1 := hid (st_start (o := tz 1 emp (.slice none 0 0)) HH.out h1 h2)
         obtain ⟨p0, p1, -⟩ := vfacts2 H1.out.sb.r1
         clear h1 h2)
      | (go_at_call 49
         refine (HP.out _ H1.out.sb.rd (by have := H1.out.sb.kp.size; omega)).mono ?_
         rintro e w2 ⟨h3, rfl⟩
         have H2 := hid (H1.out.sb.kp.trans h3 (fun _ _ h => h))
         clear h3))
    exact ⟨rfl, H2.out, rfl⟩

end Go.Proofs.Ytdnlfacfleemeaa.O

namespace Go.Proofs.Ytdnlfacfleemeaa.O
open Go.RowKit Go.Lib

theorem St.fin2 {w W : World} {p : Nat} {g : Option Nat} {bs : List Int} {a q vb N : Nat} {nm : ByteArray} {ys : List Vd} (h : Tv w W p g bs a q vb N nm ys) (hN : ys.length = N) (hp : p < w.heap.size) (hg : ∀ k, g = some k → k < w.heap.size) :
    (put6 W (w.heap.size + 1) (.int .i64 2) (.string emp) (.int .i64 0) (.slice none 0 0) (.string nm) (.slice (some ⟨vb, 0, none⟩) N N)).heap[w.heap.size + 1]? = some (.cells #[.int .i64 2, .string emp, .int .i64 0, .slice none 0 0, .string nm, .slice (some ⟨vb, 0, none⟩) N N] 30 (0, 0)) ∧
    TXP p g bs w (.ok (⟨2, emp, 0, [], nm, ys⟩, a)) (.returned (.agg #[.int .i64 2, .string emp, .int .i64 0, .slice none 0 0, .string nm, .slice (some ⟨vb, 0, none⟩) N N])) (put6 W (w.heap.size + 1) (.int .i64 2) (.string emp) (.int .i64 0) (.slice none 0 0) (.string nm) (.slice (some ⟨vb, 0, none⟩) N N)) := by
  obtain ⟨f1, f2, f3, f4⟩ := h.st.fin hp hg (.int .i64 2) (.string emp) (.int .i64 0) (.slice none 0 0) (.string nm) (.slice (some ⟨vb, 0, none⟩) N N)
  refine ⟨f1, f2, _, _, rfl, ⟨none, 0, rfl, Nat.le_refl _, fun h => absurd rfl h⟩, ?_, f3, ⟨none, rfl, fun h => absurd rfl h⟩, ?_⟩
  rotate_left
  · have := h.lv
    obtain ⟨cs, hc⟩ := h.bk
    subst hN
    exact ⟨_, rfl, fun _ => ⟨vb, cs, rfl, by omega, (f4 vb (by omega) (lt_of hc)).trans hc⟩⟩
  refine VsAt.mono (B := w.heap.size + 2) (VsAt.same (w := W) ?_ f4) (by omega)
  have := h.lv
  subst hN
  exact ⟨_, _, rfl, Nat.le_refl _, fun _ => ⟨vb, 0, rfl, by omega, fun j v hv => by rw [Nat.zero_add]; exact h.c1 j v hv⟩⟩

set_option maxRecDepth 100000 in
set_option maxHeartbeats 8000000 in
theorem txn_call (p : Nat) (g : Option Nat) (bs : List Int) (a : Nat) (w : World) (h : Rd w p g bs a 0) (hg : ∀ k, g = some k → k < w.heap.size) (hE : (takeZ 0 1 bs a 0).2.2 = 0) (hk1 : (takeZ 0 1 bs a 0).1.1 = 2) :
    Calls Try.prog 36 #[sv p bs.length] w (TXP p g bs w (tkCal bs (takeZ 0 1 bs a 0).2.1)) := by
  have HR := hid (skind_any p bs.length g bs a ((w.alloc (so p bs.length)).alloc (tz 0 emp (.slice none 0 0))) (h.below (below2 w _ _)))
  have hbl : bs.length ≤ 1000000000 := by obtain ⟨_, _, _, _, _, _, _, h⟩ := h; exact h
  have hoct := h.oct
  unfold rdX at HR
  rw [if_pos hE] at HR
  unfold SP at HR
  dsimp only at HR
  rw [hk1] at HR
  generalize (takeZ 0 1 bs a 0).2.1 = a2 at *
  have HT := hid (fun W (hr : Rd W p g bs a2 0) => stext_any p bs.length 32 g bs a2 W hr (by decide) (by decide))
  unfold rdX at HT
  unfold tkCal
  obtain ⟨⟨⟨u, t⟩, a3, e3⟩, ht⟩ : ∃ t, takeZ 3 32 bs a2 0 = t := ⟨_, rfl⟩
  rw [ht] at HT ⊢
  dsimp only at HT ⊢
  have HH := hid h
  have HGP := hid (And.intro h.plt hg)
  clear h hE hk1 ht hg
  by_cases he : e3 = 0
  · subst he
    rw [if_pos rfl] at HT ⊢
    unfold SP at HT
    dsimp only at HT
    have HC := hid (fun W (hr : Rd W p g bs a3 0) => scount_any p bs.length 16 4 g bs a3 W hr)
    unfold cntX at HC
    rw [tkCalN_eq]
    have bd := takeZ_bd 1 0 bs a3 0 hoct
    obtain ⟨⟨⟨u4, t4⟩, a4, e4⟩, ht4⟩ : ∃ t, takeZ 1 0 bs a3 0 = t := ⟨_, rfl⟩
    rw [ht4] at HC bd ⊢
    dsimp only at HC bd ⊢
    have hu0 : 0 ≤ u4 := bd.1
    clear bd ht4 hoct
    by_cases he4 : e4 = 0
    · subst he4
      rw [if_pos rfl] at HC ⊢
      by_cases hm : u4 ≤ 16
      · rw [if_pos hm] at HC ⊢
        unfold SP at HC
        dsimp only at HC
        obtain ⟨N, rfl⟩ : ∃ N : Nat, u4 = N := ⟨u4.toNat, by omega⟩
        have hN : N ≤ 16 := by omega
        rw [Int.toNat_natCast]
        obtain ⟨Z, hZ⟩ : ∃ Z, Z = calN t (tkVs bs bs.length N a4) := ⟨_, rfl⟩
        have HZ := hid hZ
        rw [← hZ]
        clear hZ hm hu0
        go_enter Try.func36, Try.ntmps36
        go_upto_region 9 with (first
          | (go_at_call 48
             refine HR.out.mono ?_
             rintro e w1 ⟨h1, rfl, h2⟩
             have H1 := hid (st_start (o := tz 2 emp (.slice none 0 0)) HH.out h1 h2)
             obtain ⟨p0, p1, -⟩ := vfacts2 H1.out.sb.r1
             clear h1 h2)
          | (go_at_call 50
             refine (HT.out _ H1.out.sb.rd).mono ?_
             rintro e w2 ⟨h3, rfl, h4⟩
             have H2 := hid (H1.out.read HGP.out.1 h3 h4)
             obtain ⟨q0, q1, q2, q3, q4, q5, qz⟩ := vfacts6 H2.out.r3
             obtain ⟨p0, p1, -⟩ := vfacts2 H2.out.sb.r1
             have hq1 := H2.out.lq
             have H3 := hid (H2.out.put HGP.out.1 HGP.out.2 (name_set H2.out.r3 (mkStr t)).2 (name_set H2.out.r3 (mkStr t)).1)
             clear h3 h4)
          | (go_at_call 35
             refine (HC.out _ H3.out.sb.rd).mono ?_
             rintro e w3 ⟨h5, rfl, h6⟩
             have H4 := hid (H3.out.read HGP.out.1 h5 h6)
             have hmk := make50 N (by omega) w3
             have H5 := hid (tv_start (N := N) H4.out HGP.out.1 HGP.out.2)
             obtain ⟨q0, q1, q2, q3, q4, q5, qz⟩ := vfacts6 (H4.out.below (below1 w3 (.cells (madeCells vCells (N * 3)) 50))).r3
             have hq2 := lt_of H4.out.r3
             clear h5 h6))
        refine cutG (fun W => Tv w W p g bs a4 w1.heap.size w3.heap.size N (mkStr t) []) H5.out ?_
        intro W0 H6
        have H6 := hid H6
        obtain ⟨q, hq⟩ : ∃ q, q = w1.heap.size := ⟨_, rfl⟩
        obtain ⟨vb, hvb⟩ : ∃ vb, vb = w3.heap.size := ⟨_, rfl⟩
        rw [← hq, ← hvb] at H6
        rw [← hq]
        clear H1 H2 H3 H4 H5 q0 q1 q2 q3 q4 q5 qz hq1 hq2 hmk p0 p1
        obtain ⟨q0, q1, q2, q3, q4, q5, qz⟩ := vfacts6 H6.out.st.r3
        clear hq hvb
        go_wp2
        go_loopw [29] (fun ix wr => ∃ (m : Nat) (ys : List Vd) (b : Nat), m ≤ N ∧ ix = .int .i64 m ∧ ys.length = m ∧ Hid (Tv w wr p g bs b q vb N (mkStr t) ys) ∧ Hid (preV ys (tkVs bs (bs.length : Int) (N - m) b) = tkVs bs (bs.length : Int) N a4)) (fun ix _ => N - (intOf ix).toNat)
        case atStart =>
          refine ⟨0, [], a4, Nat.zero_le _, rfl, rfl, H6, hid ?_⟩
          rw [Nat.sub_zero]
          cases tkVs bs (bs.length : Int) N a4 with
          | error E => rfl
          | ok r => rfl
        case round =>
          clear H6 q0 q1 q2 q3 q4 q5 qz
          obtain ⟨m, ys, b, hm, rfl, hys, hT, hK⟩ := hrel
          obtain ⟨q0, q1, q2, q3, q4, q5, qz⟩ := vfacts6 hT.out.st.r3
          obtain ⟨p0, p1, pz⟩ := vfacts2 hT.out.st.sb.r1
          by_cases hlt : m < N
          · have hlt' : (m : Int) < (N : Int) := by omega
            have HV := hid (fun W (hW : Tv w W p g bs b q vb N (mkStr t) ys) => svalue_any p bs.length g bs b W hW.st.sb.rd (fun k hk => by have := HGP.out.2 k hk; have := hW.st.sb.kp.size; omega) (by omega) (by omega))
            unfold valX at HV
            have hsub : N - m = (N - (m + 1)) + 1 := by omega
            rw [hsub] at hK
            clear hsub
            cases hv : tkVal bs (bs.length : Int) b with
            | error E =>
              rw [hv] at HV
              unfold SP at HV
              dsimp only at HV
              have hk2 := hK.out
              rw [preV_no bs _ _ _ _ E hv] at hk2
              have HK2 := hid hk2
              clear hk2 hK hv
              go_upto_region 12 with fail
              go_region_dies
              all_goals (
                refine (HV.out _ (hT.out.below (below_drew wr))).mono ?_
                rintro e w7 ⟨h7, rfl⟩
                refine ⟨rfl, ?_⟩
                rw [HZ.out, ← HK2.out]
                exact ⟨(hT.out.below (below_drew wr)).st.sb.kp.trans h7 (fun _ _ h => h), rfl⟩)
            | ok r =>
              obtain ⟨d, b2⟩ := r
              rw [hv] at HV
              unfold SP at HV
              dsimp only at HV
              have hk2 := hK.out
              rw [preV_ok bs _ _ _ _ d b2 hv] at hk2
              have HK2 := hid hk2
              clear hk2 hK hv
              go_upto_region 12 with fail
              have nq := hT.out.ne
              have ls := hT.out.lv
              have lq := hT.out.st.lq
              have ns : vb ≠ w.heap.size := by omega
              go_region_held3 (fun wx => wx.cell? ⟨q, 5, none⟩ = some (.slice (some ⟨vb, 0, none⟩) N N) ∧ wx.cell? ⟨w.heap.size, 0, none⟩ = some (.pointer (some ⟨p, 0, none⟩)) ∧ wx.cell? ⟨w.heap.size, 1, none⟩ = some (.int .i64 bs.length)) (go_keep) (first
                | (refine (HV.out _ (hT.out.below (below_drew _))).mono ?_
                   rintro e w7 ⟨h7, rfl, h8⟩
                   have H7 := hid ((hT.out.below (below_drew wr)).read HGP.out.1 h7 h8)
                   obtain ⟨q0, q1, q2, q3, q4, q5, qz⟩ := vfacts6 H7.out.st.r3
                   obtain ⟨p0, p1, pz⟩ := vfacts2 H7.out.st.sb.r1
                   obtain ⟨v0, v1, v2⟩ := H7.out.c2 m (by omega) hlt
                   have vz : ∀ o, w7.frozen? ⟨vb, o, none⟩ = false := fun o => by obtain ⟨cs, hcs⟩ := H7.out.bk; simp [World.frozen?, hcs]
                   clear h7 h8))
              have hml : m = ys.length := hys.symm
              have HF := hid (H7.out.set HGP.out.1 HGP.out.2 (by omega) ⟨d.1, d.2.1, mkStr d.2.2⟩)
              rw [hys] at HF
              clear hml
              go_wp2
              go_roundw
              case rel => exact ⟨m + 1, ys ++ [⟨d.1, d.2.1, mkStr d.2.2⟩], b2, by omega, by go_num, by simp [hys], HF, HK2⟩
              case measure => simp [intOf]; omega
          · have hmN : m = N := by omega
            have hk2 := hK.out
            rw [hmN, Nat.sub_self, tkVs] at hk2
            have HK2 := hid hk2
            have HN := hid (hys.trans hmN)
            clear hk2 hK hys
            have hd4 : decide ((m : Int) < (N : Int)) = false := by simp; omega
            clear hmN
            obtain ⟨r0, r1, r2, r3, r4, r5, rz⟩ := vfacts6 hT.out.st.sb.r2
            have hl := hT.out.st.lq
            go_wp2
            obtain ⟨f1, f2⟩ := St.fin2 hT.out HN.out HGP.out.1 HGP.out.2
            refine bodyPost_ret (ret30 Try.results36 rfl f1) rfl ?_
            rw [HZ.out, ← HK2.out]
            simpa [preV, calN] using f2
      · rw [if_neg hm] at HC ⊢
        unfold SP at HC
        unfold TXP
        dsimp only at HC ⊢
        clear hm hu0
        go_enter Try.func36, Try.ntmps36
        go_wp2_with (first
          | (go_at_call 48
             refine HR.out.mono ?_
             rintro e w1 ⟨h1, rfl, h2⟩
             have H1 := hid (st_start (o := tz 2 emp (.slice none 0 0)) HH.out h1 h2)
             obtain ⟨p0, p1, -⟩ := vfacts2 H1.out.sb.r1
             clear h1 h2)
          | (go_at_call 50
             refine (HT.out _ H1.out.sb.rd).mono ?_
             rintro e w2 ⟨h3, rfl, h4⟩
             have H2 := hid (H1.out.read HGP.out.1 h3 h4)
             obtain ⟨q0, q1, q2, q3, q4, q5, qz⟩ := vfacts6 H2.out.r3
             obtain ⟨p0, p1, -⟩ := vfacts2 H2.out.sb.r1
             have hq1 := H2.out.lq
             have H3 := hid (H2.out.put HGP.out.1 HGP.out.2 (name_set H2.out.r3 (mkStr t)).2 (name_set H2.out.r3 (mkStr t)).1)
             clear h3 h4)
          | (go_at_call 35
             refine (HC.out _ H3.out.sb.rd).mono ?_
             rintro e w3 ⟨h5, rfl⟩
             have H4 := hid (H3.out.sb.kp.trans h5 (fun _ _ h => h))
             clear h5))
        exact ⟨rfl, H4.out, rfl⟩
    · rw [if_neg he4] at HC ⊢
      unfold SP at HC
      unfold TXP
      dsimp only at HC ⊢
      clear hu0
      go_enter Try.func36, Try.ntmps36
      go_wp2_with (first
        | (go_at_call 48
           refine HR.out.mono ?_
           rintro e w1 ⟨h1, rfl, h2⟩
           have H1 := hid (st_start (o := tz 2 emp (.slice none 0 0)) HH.out h1 h2)
           obtain ⟨p0, p1, -⟩ := vfacts2 H1.out.sb.r1
           clear h1 h2)
        | (go_at_call 50
           refine (HT.out _ H1.out.sb.rd).mono ?_
           rintro e w2 ⟨h3, rfl, h4⟩
           have H2 := hid (H1.out.read HGP.out.1 h3 h4)
           obtain ⟨q0, q1, q2, q3, q4, q5, qz⟩ := vfacts6 H2.out.r3
           obtain ⟨p0, p1, -⟩ := vfacts2 H2.out.sb.r1
           have hq1 := H2.out.lq
           have H3 := hid (H2.out.put HGP.out.1 HGP.out.2 (name_set H2.out.r3 (mkStr t)).2 (name_set H2.out.r3 (mkStr t)).1)
           clear h3 h4)
        | (go_at_call 35
           refine (HC.out _ H3.out.sb.rd).mono ?_
           rintro e w3 ⟨h5, rfl⟩
           have H4 := hid (H3.out.sb.kp.trans h5 (fun _ _ h => h))
           clear h5))
      exact ⟨rfl, H4.out, rfl⟩
  · rw [if_neg he] at HT ⊢
    unfold SP at HT
    unfold TXP
    dsimp only at HT ⊢
    go_enter Try.func36, Try.ntmps36
    go_wp2_with (first
      | (go_at_call 48
         refine HR.out.mono ?_
         rintro e w1 ⟨h1, rfl, h2⟩
         have H1 := hid (st_start (o := tz 2 emp (.slice none 0 0)) HH.out h1 h2)
         obtain ⟨p0, p1, -⟩ := vfacts2 H1.out.sb.r1
         clear h1 h2)
      | (go_at_call 50
         refine (HT.out _ H1.out.sb.rd).mono ?_
         rintro e w2 ⟨h3, rfl⟩
         have H2 := hid (H1.out.sb.kp.trans h3 (fun _ _ h => h))
         clear h3))
    exact ⟨rfl, H2.out, rfl⟩

end Go.Proofs.Ytdnlfacfleemeaa.O
