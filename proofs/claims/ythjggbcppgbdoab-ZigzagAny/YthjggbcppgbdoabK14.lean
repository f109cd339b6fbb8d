import Derived.Test.YthjggbcppgbdoabK13
namespace Go.Proofs.Ythjggbcppgbdoab.V
open Go.RowKit

theorem del_append (k : ByteArray) (a b : List En) : del k (a ++ b) = del k a ++ del k b := by simp [del]
theorem del_none {k : ByteArray} {l : List En} (h : ∀ e ∈ l, e.2.1 ≠ k) : del k l = l := by
  unfold del
  rw [List.filter_eq_self]
  intro e he
  simp [keq_false (h e he)]
theorem Rises.left {a b : List En} (h : Rises (a ++ b)) : Rises a := (List.pairwise_append.1 h).1
theorem Rises.right {a b : List En} (h : Rises (a ++ b)) : Rises b := (List.pairwise_append.1 h).2.1
theorem Rises.tail {c : En} {b : List En} (h : Rises (c :: b)) : Rises b := (List.pairwise_cons.1 h).2
theorem Rises.lo {a b : List En} {c : En} (h : Rises (a ++ c :: b)) : ∀ e ∈ a, kl e.2.1 c.2.1 = true := fun e he => (List.pairwise_append.1 h).2.2 e he c (by simp)
theorem Rises.hi {b : List En} {c : En} (h : Rises (c :: b)) : ∀ e ∈ b, kl c.2.1 e.2.1 = true := (List.pairwise_cons.1 h).1

theorem del_low {k : ByteArray} {a b : List En} {c : En} (h : Rises (a ++ c :: b)) (hk : kl k c.2.1 = true) : del k (a ++ c :: b) = del k a ++ c :: b := by
  rw [del_append, del_none (l := c :: b)]
  intro e he
  rcases List.mem_cons.1 he with rfl | he
  · exact (kl_ne hk).symm
  · exact (kl_ne (kl_trans hk (h.right.hi e he))).symm
theorem del_high {k : ByteArray} {a b : List En} {c : En} (h : Rises (a ++ c :: b)) (hk : kl c.2.1 k = true) : del k (a ++ c :: b) = a ++ c :: del k b := by
  have : a ++ c :: b = (a ++ [c]) ++ b := by simp
  rw [this, del_append, del_none (l := a ++ [c])]
  · simp
  intro e he
  rcases List.mem_append.1 he with he | he
  · exact kl_ne (kl_trans (h.lo e he) hk)
  · rw [List.mem_singleton] at he; subst he; exact kl_ne hk
theorem del_mid {a b : List En} {c : En} (h : Rises (a ++ c :: b)) : del c.2.1 (a ++ c :: b) = a ++ b := by
  rw [del_append, show c :: b = [c] ++ b from rfl, del_append, del_none (l := a) (fun e he => kl_ne (h.lo e he)), del_none (l := b) (fun e he => (kl_ne (h.right.hi e he)).symm)]
  simp [del]

theorem mem_del {k : ByteArray} {l : List En} {e : En} (h : e ∈ del k l) : e ∈ l := (List.mem_filter.1 h).1
theorem Rises.del {l : List En} (h : Rises l) (k : ByteArray) : Rises (del k l) := List.Pairwise.filter _ h
theorem blks_del_sub {l : List En} {k : ByteArray} : (blks (del k l)).Sublist (blks l) := (List.filter_sublist).map _

/-- without, as it is asked of a tree. -/
abbrev WoSays (t : Tr) : Prop := ∀ (w : World) (key : ByteArray), t.At 96 w → Rises t.toL → t.bs.Nodup → t.n ≤ 700000 → (∃ e ∈ t.toL, e.2.1 = key) → Calls Try.prog 56 #[t.ptr, .string key] w (TPost (del key t.toL) w)

theorem bs_of {t : Tr} {L : List En} (e : t.toL = L) : t.bs = blks L := by unfold Tr.bs; rw [e]
theorem n_of {t : Tr} {L : List En} (e : t.toL = L) : t.n = L.length := by unfold Tr.n; rw [e]

theorem Tr.At.mem {w : World} : ∀ {t : Tr}, t.At 96 w → ∀ b k v, (b, k, v) ∈ t.toL → ∃ p q h, Nd w b k v (.pointer p) (.pointer q) (.int .i64 h)
  | .nil, _ => by simp [Tr.toL]
  | .node b k v l r, h => by
    obtain ⟨h0, h1, h2⟩ := h
    intro b' k' v' hm
    simp only [Tr.toL, List.mem_append, List.mem_cons] at hm
    rcases hm with hm | hm | hm
    · exact h1.mem b' k' v' hm
    · simp only [Prod.mk.injEq] at hm
      obtain ⟨rfl, rfl, rfl⟩ := hm
      exact ⟨_, _, _, h0⟩
    · exact h2.mem b' k' v' hm

/-- Behind the call of without: top's two sides, and levelled. -/
theorem join_end {w w1 : World} {b fb : Nat} {k fk : ByteArray} {v fv : Value} {h0 h1 : Int} {p q : Option Addr} {l r t1 : Tr} {rest : List En} (_hB : Nd w b k v l.ptr r.ptr (.int .i64 h0)) (hl : l.At 96 w) (hF : Nd w fb fk fv (.pointer p) (.pointer q) (.int .i64 h1))
    (er : r.toL = (fb, fk, fv) :: rest) (e1 : t1.toL = rest) (a1 : t1.At 96 w1) (k1 : Kept (fun i => i ∈ t1.bs) w w1) (hn : (b :: (l.bs ++ r.bs)).Nodup) (nn : l.n + r.n ≤ 700000) {pl : Option Addr} (hpl : l.addr = pl) :
    Calls Try.prog 54 #[.pointer (some ⟨fb, 0, none⟩)] ((w1.setCell ⟨fb, 3, none⟩ t1.ptr).setCell ⟨fb, 2, none⟩ (.pointer pl)) (TPost (l.toL ++ r.toL) w) := by
  subst hpl
  have er' := bs_of er
  have e1' := bs_of e1
  simp only [blks_cons] at er'
  have q1 : fb ∉ t1.bs ∧ fb ∉ l.bs ∧ fb ≠ b ∧ (∀ i ∈ l.bs, i ∉ t1.bs) ∧ b ∉ t1.bs ∧ (fb :: (l.bs ++ t1.bs)).Nodup := by
    rw [er'] at hn
    rw [e1']
    grind
  obtain ⟨W4, hW4⟩ : ∃ W4, W4 = (w1.setCell ⟨fb, 3, none⟩ t1.ptr).setCell ⟨fb, 2, none⟩ l.ptr := ⟨_, rfl⟩
  rw [← hW4]
  have K4 : Kept (fun i => i = fb) w1 W4 := by rw [hW4]; exact ((Kept.refl (fun i => i = fb) w1).setCell (p := ⟨fb, 3, none⟩) (fun _ => rfl) _).setCell (p := ⟨fb, 2, none⟩) (fun _ => rfl) _
  have B4 : Nd W4 fb fk fv l.ptr t1.ptr (.int .i64 h1) := by
    rw [hW4]
    exact set_block (i := 2) (w := w1.setCell ⟨fb, 3, none⟩ t1.ptr) (set_block (i := 3) (hp_kept hF k1 q1.1) _) _
  have t4 : t1.At 96 W4 := a1.kept K4 (fun i hi e => q1.1 (e ▸ hi))
  have l4 : l.At 96 W4 := (hl.kept k1 q1.2.2.2.1).kept K4 (fun i hi e => q1.2.1 (e ▸ hi))
  have n1 := n_of er
  have n2 := n_of e1
  simp only [List.length_cons] at n1
  refine (levelled_any fb fk fv h1 l t1 W4 B4 l4 t4 q1.2.2.2.2.2 (by omega)).mono ?_
  rintro x w' ⟨t', rfl, x1, x2, x3⟩
  refine ⟨t', rfl, x1, by rw [x2, er, e1], ?_⟩
  have hm : ∀ i, i ∈ t1.bs ∨ i = fb → i ∈ t'.bs := by
    intro i hi
    apply mem_bs x2
    simp only [Tr.bs] at hi
    simp only [blks_append, blks_cons, List.mem_append, List.mem_cons]
    grind
  exact ((k1.mono (fun i _ e => hm i (.inl e))).trans K4 (fun i _ e => hm i (.inr e))).trans x3 (fun i _ e => e)

set_option maxRecDepth 100000 in
set_option maxHeartbeats 2000000 in
theorem joined_any (b : Nat) (k : ByteArray) (v : Value) (h0 : Int) (l r : Tr) (hwo : WoSays r) (w : World) (hB : Nd w b k v l.ptr r.ptr (.int .i64 h0)) (hl : l.At 96 w) (hr : r.At 96 w) (hs : Rises r.toL) (hn : (b :: (l.bs ++ r.bs)).Nodup) (nn : l.n + r.n ≤ 700000) :
    Calls Try.prog 71 #[.pointer (some ⟨b, 0, none⟩)] w (TPost (l.toL ++ r.toL) w) := by
  obtain ⟨-, -, c2, c3, -⟩ := cells5 hB
  cases l with
  | nil =>
    have HH := hid hr
    have c2' : w.cell? ⟨b, 2, none⟩ = some (.pointer none) := c2
    clear hB hl hr hs hn nn hwo c2
    go_enter Try.func71, Try.ntmps71
    go_wp2
    go_ret
    exact ⟨r, rfl, HH.out, rfl, (Kept.refl (fun _ => False) w).mono (fun _ _ h => h.elim)⟩
  | node lb lk lv ll lr =>
    have c2' : w.cell? ⟨b, 2, none⟩ = some (.pointer (some ⟨lb, 0, none⟩)) := c2
    cases r with
    | nil =>
      have c3' : w.cell? ⟨b, 3, none⟩ = some (.pointer none) := c3
      have HH := hid hl
      clear hB hl hr hs hn nn hwo c2 c3
      go_enter Try.func71, Try.ntmps71
      go_wp2
      go_ret
      exact ⟨Tr.node lb lk lv ll lr, rfl, HH.out, by simp [Tr.toL], (Kept.refl (fun _ => False) w).mono (fun _ _ h => h.elim)⟩
    | node rb rk rv rl rr =>
      have c3' : w.cell? ⟨b, 3, none⟩ = some (.pointer (some ⟨rb, 0, none⟩)) := c3
      generalize hL : Tr.node lb lk lv ll lr = l at *
      have F1 := hid (first_any (Tr.node rb rk rv rl rr) w hr (by simp))
      generalize hR : Tr.node rb rk rv rl rr = r at *
      have hLa : l.addr = some ⟨lb, 0, none⟩ := by rw [← hL]; rfl
      have hRa : r.addr = some ⟨rb, 0, none⟩ := by rw [← hR]; rfl
      have HH := hid (And.intro hB (And.intro hl (And.intro hr (And.intro hs (And.intro hn nn)))))
      have HW := hid hwo
      have HA := hid (And.intro hLa hRa)
      have F2 := hid (show Calls Try.prog 82 #[.pointer (some ⟨rb, 0, none⟩)] w (FPost r w) from hRa ▸ F1.out)
      clear hB hl hr hs hn nn hwo c2 c3 hL hR hLa hRa F1
      generalize hP : TPost (l.toL ++ r.toL) w = P
      have HP := hid hP
      clear hP
      go_enter Try.func71, Try.ntmps71
      go_wp2_with (
        go_at_call 82
        refine F2.out.mono ?_
        rintro e w1 ⟨fb, fk, fv, hhd, rfl, e1⟩
        rw [e1]
        clear e1 w1
        have HD := hid hhd
        clear hhd)
      obtain ⟨rest, er⟩ : ∃ rest, r.toL = (fb, fk, fv) :: rest := by
        have := HD.out
        cases e : r.toL with
        | nil => rw [e] at this; cases this
        | cons a x => rw [e] at this; simp only [List.head?_cons, Option.some.injEq] at this; exact ⟨x, by rw [this]⟩
      obtain ⟨p, q, h1, hF⟩ := HH.out.2.2.1.mem fb fk fv (by rw [er]; simp)
      have d0 := (cells5 hF).1
      have hfb : fb ≠ b := by have := HH.out.2.2.2.2.1; rw [bs_of er] at this; simp only [blks_cons] at this; grind
      have WO := hid (show Calls Try.prog 56 #[.pointer (some ⟨rb, 0, none⟩), .string fk] w.drew (TPost rest w.drew) from by
        have h := HW.out w.drew fk (Tr.At.heap (w := w) (w' := w.drew) rfl HH.out.2.2.1) HH.out.2.2.2.1 (by have := HH.out.2.2.2.2.1; grind) (by have := HH.out.2.2.2.2.2; omega) ⟨(fb, fk, fv), by rw [er]; simp, rfl⟩
        rw [er] at h
        have hs := HH.out.2.2.2.1
        rw [er] at hs
        have hd : del fk ((fb, fk, fv) :: rest) = rest := del_mid (a := []) (b := rest) (c := (fb, fk, fv)) hs
        rw [hd] at h
        rw [Tr.ptr, HA.out.2] at h
        exact h)
      have HF := hid (And.intro hF er)
      have HX := hid (show ∀ (w1 : World) (t1 : Tr), t1.toL = rest → Kept (fun i => i ∈ t1.bs) w.drew w1 → Nd w1 b k v (.pointer (some ⟨lb, 0, none⟩)) (.pointer (some ⟨rb, 0, none⟩)) (.int .i64 h0) ∧ Nd w1 fb fk fv (.pointer p) (.pointer q) (.int .i64 h1) from fun w1 t1 e1 k1 => by
        have hq : fb ∉ t1.bs ∧ b ∉ t1.bs := by
          have := HH.out.2.2.2.2.1
          rw [bs_of er] at this
          rw [bs_of e1]
          simp only [blks_cons] at this
          grind
        have h2 := HH.out.1
        rw [Tr.ptr, Tr.ptr, HA.out.1, HA.out.2] at h2
        exact ⟨hp_kept (w := w.drew) h2 k1 hq.2, hp_kept (w := w.drew) HF.out.1 k1 hq.1⟩)
      clear hF er
      go_region_held3 (fun w' => w'.cell? ⟨b, 3, none⟩ = some (.pointer (some ⟨rb, 0, none⟩)) ∧ w'.cell? ⟨fb, 0, none⟩ = some (.string fk)) (first | (simp only [cs_off (show (3 : Nat) ≠ 0 by decide), cs_blk hfb, x3, y0, and_self]; done) | go_keep) (first
        | (go_at_call 56
           refine WO.out.mono ?_
           rintro e w1 ⟨t1, rfl, a1, e1, k1⟩
           obtain ⟨B1, B2⟩ := HX.out w1 t1 e1 k1
           have x2 := (cells5 B1).2.2.1
           have x3 := (cells5 B1).2.2.2.1
           have y0 := (cells5 B2).1
           have y2 := (cells5 B2).2.2.1
           have y3 := (cells5 B2).2.2.2.1
           have ff : ∀ o, w1.frozen? ⟨fb, o, none⟩ = false := fun o => free_of_block B2
           have N1 := hid (And.intro a1 (And.intro e1 k1))
           clear a1 e1 k1 B1 B2))
      have hfb' : b ≠ fb := fun e => hfb e.symm
      go_wp2_with (
        go_at_call 54
        refine (join_end (w1 := w1) HH.out.1 HH.out.2.1 HF.out.1 HF.out.2 N1.out.2.1 N1.out.1 N1.out.2.2.undrew HH.out.2.2.2.2.1 HH.out.2.2.2.2.2 HA.out.1).mono ?_
        rintro e w2 ⟨t2, rfl, hp⟩
        have N2 := hid hp
        clear hp)
      rw [← HP.out]
      exact ⟨t2, rfl, N2.out⟩

theorem bs_sub {t t1 : Tr} {k : ByteArray} (e : t1.toL = del k t.toL) : t1.bs.Sublist t.bs := by
  rw [bs_of e]; exact blks_del_sub
theorem n_sub {t t1 : Tr} {k : ByteArray} (e : t1.toL = del k t.toL) : t1.n ≤ t.n := by
  rw [n_of e]; exact List.length_filter_le _ _
theorem nd_sub {b : Nat} {l r t1 : Tr} {k : ByteArray} (h : (l.bs ++ b :: r.bs).Nodup) (e : t1.toL = del k l.toL) : (b :: (t1.bs ++ r.bs)).Nodup := by
  have h1 := bs_sub e
  have h2 := h1.nodup (by grind)
  have h3 := h1.subset
  grind
theorem nd_sub' {b : Nat} {l r t1 : Tr} {k : ByteArray} (h : (l.bs ++ b :: r.bs).Nodup) (e : t1.toL = del k r.toL) : (b :: (l.bs ++ t1.bs)).Nodup := by
  have h1 := bs_sub e
  have h2 := h1.nodup (by grind)
  have h3 := h1.subset
  grind
theorem HX1 {w w1 : World} {b : Nat} {k key : ByteArray} {v p q h : Value} {l r t1 : Tr} (hB : Nd w b k v p q h) (hn : (l.bs ++ b :: r.bs).Nodup) (e : t1.toL = del key r.toL) (k1 : Kept (fun i => i ∈ t1.bs) w w1) : Nd w1 b k v p q h := by
  refine hp_kept hB k1 ?_
  have h3 := (bs_sub e).subset
  grind
theorem HX2 {w w1 : World} {b : Nat} {k key : ByteArray} {v p q h : Value} {l r t1 : Tr} (hB : Nd w b k v p q h) (hn : (l.bs ++ b :: r.bs).Nodup) (e : t1.toL = del key l.toL) (k1 : Kept (fun i => i ∈ t1.bs) w w1) : Nd w1 b k v p q h := by
  refine hp_kept hB k1 ?_
  have h3 := (bs_sub e).subset
  grind

set_option maxRecDepth 100000 in
set_option maxHeartbeats 2000000 in
theorem without_any : ∀ t : Tr, WoSays t := by
  intro t
  induction t with
  | nil =>
    intro w key _ _ _ _ h
    obtain ⟨e, he, _⟩ := h
    simp [Tr.toL] at he
  | node b k v l r ihl ihr =>
    intro w key ht hs hn nn hk
    have c0 := (cells5 ht.1).1
    have c2 := (cells5 ht.1).2.2.1
    have c3 := (cells5 ht.1).2.2.2.1
    have hn' : (l.bs ++ b :: r.bs).Nodup := by rw [← Tr.bs_node]; exact hn
    have nn' : l.n + r.n + 1 ≤ 700000 := by simp only [Tr.n, Tr.toL, List.length_append, List.length_cons] at nn ⊢; omega
    have hs' : Rises (l.toL ++ (b, k, v) :: r.toL) := hs
    show Calls Try.prog 56 #[.pointer (some ⟨b, 0, none⟩), .string key] w _
    have JN := hid (show key = k → Calls Try.prog 71 #[.pointer (some ⟨b, 0, none⟩)] w (TPost (l.toL ++ r.toL) w) from fun _ => joined_any b k v _ l r ihr w ht.1 ht.2.1 ht.2.2 hs'.right.tail (by grind) (by omega))
    have eL : (Tr.node b k v l r).toL = l.toL ++ (b, k, v) :: r.toL := rfl
    have LL := hid (show kl key k = true → Calls Try.prog 56 #[l.ptr, .string key] w (TPost (del key l.toL) w) from fun hkl => ihl w key ht.2.1 hs'.left (by grind) (by omega) (by
      obtain ⟨e, he, rfl⟩ := hk
      rw [eL] at he
      rcases List.mem_append.1 he with he | he
      · exact ⟨e, he, rfl⟩
      · exfalso
        rcases List.mem_cons.1 he with rfl | he
        · rw [kl_irrefl] at hkl; cases hkl
        · have := kl_asymm (hs'.right.hi e he)
          rw [show kl e.2.1 k = true from hkl] at this
          cases this))
    have LR := hid (show kl k key = true → Calls Try.prog 56 #[r.ptr, .string key] w (TPost (del key r.toL) w) from fun hkl => ihr w key ht.2.2 hs'.right.tail (by grind) (by omega) (by
      obtain ⟨e, he, rfl⟩ := hk
      rw [eL] at he
      rcases List.mem_append.1 he with he | he
      · exfalso
        have := kl_asymm (hs'.lo e he)
        rw [show kl k e.2.1 = true from hkl] at this
        cases this
      · rcases List.mem_cons.1 he with rfl | he
        · rw [kl_irrefl] at hkl; cases hkl
        · exact ⟨e, he, rfl⟩))
    have HT := hid (And.intro ht (And.intro hs' (And.intro hn' nn')))
    rw [eL]
    clear ht hs hn nn hk ihl ihr hn' nn' hs' eL
    generalize hP : TPost (del key (l.toL ++ (b, k, v) :: r.toL)) w = P
    have HP := hid hP
    clear hP
    have CM := hid (strCompare_any key k w)
    cases h1 : kl key k
    · cases h2 : kl k key
      · have e := kl_tri h1 h2
        subst e
        have CM2 := hid (cmp_same key ▸ CM.out)
        have JN2 := hid (JN.out rfl)
        clear CM h1 h2 c2 c3 JN LL LR
        go_enter Try.func56, Try.ntmps56
        go_wp2_with (first
          | (go_at_call 63
             refine CM2.out.mono ?_
             rintro e w1 ⟨rfl, e1⟩
             rw [e1]
             clear e1 w1)
          | (go_at_call 71
             refine JN2.out.mono ?_
             rintro e w1 ⟨t1, rfl, hp⟩
             have N1 := hid hp
             clear hp))
        rw [← HP.out]
        have hd := del_mid (c := (b, key, v)) HT.out.2.1
        obtain ⟨p1, p2, p3⟩ := N1.out
        exact ⟨t1, rfl, p1, p2.trans hd.symm, p3⟩
      · have CM2 := hid (cmp_gt h2 ▸ CM.out)
        have LR2 := hid (LR.out h2)
        have H2 := hid h2
        clear CM h1 h2 c2 LL LR JN
        go_enter Try.func56, Try.ntmps56
        go_wp2_with (first
          | (go_at_call 63
             refine CM2.out.mono ?_
             rintro e w1 ⟨rfl, e1⟩
             rw [e1]
             clear e1 w1)
          | (go_at_call 56
             refine LR2.out.mono ?_
             rintro e w1 ⟨t1, rfl, a1, e1, k1⟩
             have B0 := HX1 HT.out.1.1 HT.out.2.2.1 e1 k1
             have f2 := (cells5 B0).2.2.2.1
             have ff : ∀ o, w1.frozen? ⟨b, o, none⟩ = false := fun o => free_of_block B0
             have N1 := hid (And.intro a1 (And.intro e1 k1))
             clear a1 e1 k1 B0)
          | (go_at_call 54
             refine (relev_high HT.out.1.1 HT.out.1.2.1 (Kept.refl (fun _ => False) w) N1.out.1 N1.out.2.2 (nd_sub' HT.out.2.2.1 N1.out.2.1) (by have := n_sub N1.out.2.1; have := HT.out.2.2.2; omega)).mono ?_
             rintro e w2 ⟨t2, rfl, hp⟩
             have N2 := hid hp
             clear hp))
        rw [← HP.out]
        obtain ⟨p1, p2, p3⟩ := N2.out
        have hd := del_high (c := (b, k, v)) HT.out.2.1 H2.out
        exact ⟨t2, rfl, p1, by rw [p2, hd, N1.out.2.1], p3⟩
    · have CM2 := hid (cmp_lt h1 ▸ CM.out)
      have LL2 := hid (LL.out h1)
      have H1 := hid h1
      clear CM h1 c3 LL LR JN
      go_enter Try.func56, Try.ntmps56
      go_wp2_with (first
        | (go_at_call 63
           refine CM2.out.mono ?_
           rintro e w1 ⟨rfl, e1⟩
           rw [e1]
           clear e1 w1)
        | (go_at_call 56
           refine LL2.out.mono ?_
           rintro e w1 ⟨t1, rfl, a1, e1, k1⟩
           have B0 := HX2 HT.out.1.1 HT.out.2.2.1 e1 k1
           have f2 := (cells5 B0).2.2.1
           have ff : ∀ o, w1.frozen? ⟨b, o, none⟩ = false := fun o => free_of_block B0
           have N1 := hid (And.intro a1 (And.intro e1 k1))
           clear a1 e1 k1 B0)
        | (go_at_call 54
           refine (relev_low HT.out.1.1 HT.out.1.2.2 (Kept.refl (fun _ => False) w) N1.out.1 N1.out.2.2 (nd_sub HT.out.2.2.1 N1.out.2.1) (by have := n_sub N1.out.2.1; have := HT.out.2.2.2; omega)).mono ?_
           rintro e w2 ⟨t2, rfl, hp⟩
           have N2 := hid hp
           clear hp))
      rw [← HP.out]
      obtain ⟨p1, p2, p3⟩ := N2.out
      have hd := del_low (c := (b, k, v)) HT.out.2.1 H1.out
      exact ⟨t2, rfl, p1, by rw [p2, hd, N1.out.2.1], p3⟩

end Go.Proofs.Ythjggbcppgbdoab.V

namespace Go.Proofs.Ythjggbcppgbdoab.V
open Go.RowKit

/-- A table in the heap. -/
structure Tb (cm : Value × Value) (w : World) (p : Nat) (t : Tr) : Prop where
  blk : w.heap[p]? = some (.cells #[t.ptr, .int .i64 t.n, cm.1, cm.2] 57 (0, 0))
  at_ : t.At 96 w
  rs : Rises t.toL
  nd : t.bs.Nodup

theorem Tb.kept {cm : Value × Value} {w w' : World} {p : Nat} {t : Tr} {S : Nat → Prop} (h : Tb cm w p t) (hk : Kept S w w') (h0 : ¬ S p) (h1 : ∀ i ∈ t.bs, ¬ S i) : Tb cm w' p t :=
  ⟨hp_kept h.blk hk h0, h.at_.kept hk h1, h.rs, h.nd⟩
theorem Tb.below {cm : Value × Value} {w w' : World} {p : Nat} {t : Tr} (h : Tb cm w p t) (hk : Below w.heap.size w w') : Tb cm w' p t :=
  h.kept (Kept.ofBelow hk) (fun e => e) (fun _ _ e => e)
theorem Tb.heap {cm : Value × Value} {w w' : World} {p : Nat} {t : Tr} (e : w'.heap = w.heap) (h : Tb cm w p t) : Tb cm w' p t := ⟨by rw [e]; exact h.blk, h.at_.heap e, h.rs, h.nd⟩

theorem bs_mem {t : Tr} {i : Nat} (h : i ∈ t.bs) : ∃ k v, (i, k, v) ∈ t.toL := by
  unfold Tr.bs blks at h
  obtain ⟨⟨a, k, v⟩, h1, rfl⟩ := List.mem_map.1 h
  exact ⟨k, v, h1⟩
theorem Tb.apart {cm : Value × Value} {w : World} {p : Nat} {t : Tr} (h : Tb cm w p t) : p ∉ t.bs := by
  intro hm
  obtain ⟨k, v, hm⟩ := bs_mem hm
  obtain ⟨a, b, c, e⟩ := h.at_.mem p k v hm
  have := h.blk
  rw [e] at this
  cases this

def optP : Option En → Value
  | none => .pointer none
  | some e => .pointer (some ⟨e.1, 0, none⟩)

/-- The first at or above a text; the first above it. -/
def geqE (text : ByteArray) (l : List En) : Option En := l.find? (fun e => !kl e.2.1 text)
def gtrE (text : ByteArray) (l : List En) : Option En := l.find? (fun e => kl text e.2.1)

theorem find_low {p : En → Bool} {l r : List En} {c : En} (h : p c = true) (o : Option En) : ((l ++ c :: r).find? p).or o = (l.find? p).or (some c) := by
  rw [List.find?_append, List.find?_cons, h]
  cases l.find? p <;> rfl
theorem find_high {p : En → Bool} {l r : List En} {c : En} (h : p c = false) (hl : ∀ e ∈ l, p e = true → p c = true) (o : Option En) : ((l ++ c :: r).find? p).or o = (r.find? p).or o := by
  have : l.find? p = none := by
    rw [List.find?_eq_none]
    intro e he hp
    rw [hl e he hp] at h
    cases h
  rw [List.find?_append, List.find?_cons, h, this]
  rfl

theorem gtr_eq (a b : ByteArray) : (!Op.bytesLess a.toList b.toList && !(a.toList == b.toList)) = kl b a := by
  cases h1 : kl a b
  · cases h2 : kl b a
    · have := kl_tri h1 h2
      subst this
      simp
    · have h1' : Op.bytesLess a.toList b.toList = false := h1
      rw [h1', keq_false (kl_ne h2).symm]; rfl
  · have h1' : Op.bytesLess a.toList b.toList = true := h1
    rw [h1', kl_asymm h1]; rfl

theorem cells4 {w : World} {p : Nat} {a b c d : Value} {t : TypeId} (h : w.heap[p]? = some (.cells #[a, b, c, d] t (0, 0))) : w.cell? ⟨p, 0, none⟩ = some a ∧ w.cell? ⟨p, 1, none⟩ = some b ∧ w.cell? ⟨p, 2, none⟩ = some c ∧ w.cell? ⟨p, 3, none⟩ = some d := by
  refine ⟨?_, ?_, ?_, ?_⟩ <;> (rw [cell_of_row w p _ _ _ _ h]; rfl)

/-- A captured text's box. -/
abbrev Bx (w : World) (g : Nat) (s : ByteArray) : Prop := w.heap[g]? = some (.cells #[.string s] 9 (0, 0))

set_option maxRecDepth 100000 in
set_option maxHeartbeats 800000 in
theorem far42 (g : Nat) (k text : ByteArray) (w : World) (h : Bx w g text) : Calls Try.prog 72 #[.string k, .pointer (some ⟨g, 0, none⟩)] w fun x w' => x = .returned (.bool (kl text k)) ∧ w' = w := by
  have c0 := cells1 h
  have H := hid (gtr_eq k text)
  clear h
  go_enter Try.func72, Try.ntmps72
  go_wp2
  go_ret
  exact ⟨by rw [← H.out]; rfl, rfl⟩

set_option maxRecDepth 100000 in
set_option maxHeartbeats 800000 in
theorem far45 (g : Nat) (k text : ByteArray) (w : World) (h : Bx w g text) : Calls Try.prog 66 #[.string k, .pointer (some ⟨g, 0, none⟩)] w fun x w' => x = .returned (.bool (!kl k text)) ∧ w' = w := by
  have c0 := cells1 h
  clear h
  go_enter Try.func66, Try.ntmps66
  go_wp2
  go_ret
  exact ⟨rfl, rfl⟩

set_option maxRecDepth 100000 in
set_option maxHeartbeats 800000 in
theorem least_nil (f : Value) (w : World) : Calls Try.prog 65 #[.pointer none, f] w fun x w' => x = .returned (.pointer none) ∧ w' = w := by
  go_enter Try.func65, Try.ntmps65
  go_wp2
  go_ret
  exact ⟨rfl, rfl⟩

theorem far_mono42 {l r : List En} {c : En} {text : ByteArray} (h : Rises (l ++ c :: r)) : ∀ e ∈ l, kl text e.2.1 = true → kl text c.2.1 = true := fun e he hp => kl_trans hp (h.lo e he)
theorem far_mono45 {l r : List En} {c : En} {text : ByteArray} (h : Rises (l ++ c :: r)) : ∀ e ∈ l, (!kl e.2.1 text) = true → (!kl c.2.1 text) = true := fun e he hp => by
  cases h2 : kl c.2.1 text
  · rfl
  · rw [kl_trans (h.lo e he) h2] at hp; cases hp

theorem hOf_heap {w w' : World} (e : w'.heap = w.heap) (v : Value) : hOf w' v = hOf w v := by
  have : ∀ a, w'.cell? a = w.cell? a := fun a => World.cell?_of_block (by rw [e])
  unfold hOf
  cases v <;> try rfl
  rename_i o
  cases o <;> try rfl
  simp only [this]

set_option maxRecDepth 100000 in
set_option maxHeartbeats 2000000 in
theorem least42 {cm : Value × Value} (p g : Nat) (text : ByteArray) (t : Tr) (w : World) (ht : Tb cm w p t) (hg : Bx w g text) :
    Calls Try.prog 65 #[.pointer (some ⟨p, 0, none⟩), .func (.func 72) #[] #[.pointer (some ⟨g, 0, none⟩)]] w fun x w' => x = .returned (optP (gtrE text t.toL)) ∧ ∃ n, w' = w.drewN n := by
  obtain ⟨c0, c1, -, -⟩ := cells4 ht.blk
  generalize hP : (fun (x : Ending) (w' : World) => x = .returned (optP (gtrE text t.toL)) ∧ ∃ n, w' = w.drewN n) = P
  have HP := hid hP
  have HT := hid (And.intro ht hg)
  clear hP ht hg c1
  go_enter Try.func65, Try.ntmps65
  go_wp2
  go_loopw [5, 6] (fun f i wr => ∃ (s : Tr) (o : Option En), f = optP o ∧ i = s.ptr ∧ Hid (wr.heap = w.heap ∧ (∃ n, wr = w.drewN n) ∧ s.At 96 wr ∧ Rises s.toL ∧ (s.toL.find? (fun e => kl text e.2.1)).or o = gtrE text t.toL)) (fun _ i wr => hOf wr i)
  case atStart => exact ⟨t, none, rfl, rfl, hid ⟨rfl, ⟨0, rfl⟩, HT.out.1.at_, HT.out.1.rs, by simp [gtrE]⟩⟩
  case round =>
    obtain ⟨s, o, rfl, rfl, hr⟩ := hrel
    cases s with
    | nil =>
      show Code.wp _ _ _ { tmps := #[_, _, _, _, _, _, .pointer none, _, _, _, _, _, _, _, _, _, _, _, _, _, _, _, _, _, _, _, _, _, _, _, _], defers := _ } _
      go_wp2
      rw [← HP.out]
      refine ⟨?_, hr.out.2.1⟩
      have := hr.out.2.2.2.2
      simp only [Tr.toL, List.find?_nil, Option.none_or] at this
      rw [← this]
      rfl
    | node b k v l r =>
      show Code.wp _ _ _ { tmps := #[_, _, _, _, _, _, .pointer (some ⟨b, 0, none⟩), _, _, _, _, _, _, _, _, _, _, _, _, _, _, _, _, _, _, _, _, _, _, _, _], defers := _ } _
      have d0 := (cells5 hr.out.2.2.1.1).1
      have d2 := (cells5 hr.out.2.2.1.1).2.2.1
      have d3 := (cells5 hr.out.2.2.1.1).2.2.2.1
      have hh : hOf wr (.pointer (some ⟨b, 0, none⟩)) = (Tr.node b k v l r).ht := hOf_at hr.out.2.2.1
      have e1 : hOf wr l.ptr = l.ht := hOf_at hr.out.2.2.1.2.1
      have e2 : hOf wr r.ptr = r.ht := hOf_at hr.out.2.2.1.2.2
      have HM := hid (show hOf wr l.ptr < hOf wr (.pointer (some ⟨b, 0, none⟩)) ∧ hOf wr r.ptr < hOf wr (.pointer (some ⟨b, 0, none⟩)) from by
        rw [hh, e1, e2]
        simp only [Tr.ht]
        omega)
      clear hh e1 e2
      have FF := hid (far42 g k text wr (by rw [Bx, hr.out.1]; exact HT.out.2))
      cases hf : (kl text k)
      · have F2 := hid (hf ▸ FF.out)
        have HF := hid hf
        clear FF hf
        go_wp2_with (
          go_at_call 72
          refine F2.out.mono ?_
          rintro e w1 ⟨rfl, e1⟩
          rw [e1]
          clear e1 w1)
        go_roundw
        case rel =>
          obtain ⟨q1, q2, q3, q4, q5⟩ := hr.out
          have q4' : Rises (l.toL ++ (b, k, v) :: r.toL) := q4
          refine ⟨r, o, rfl, rfl, hid ⟨q1, q2, q3.2.2, q4'.right.tail, ?_⟩⟩
          rw [← q5]
          exact (find_high (p := fun e : En => kl text e.2.1) (c := (b, k, v)) HF.out (far_mono42 q4') o).symm
        case measure => exact HM.out.2
      · have F2 := hid (hf ▸ FF.out)
        have HF := hid hf
        clear FF hf
        go_wp2_with (
          go_at_call 72
          refine F2.out.mono ?_
          rintro e w1 ⟨rfl, e1⟩
          rw [e1]
          clear e1 w1)
        go_quiet (fail)
        go_wp2
        go_roundw
        case rel =>
          obtain ⟨q1, q2, q3, q4, q5⟩ := hr.out
          have q4' : Rises (l.toL ++ (b, k, v) :: r.toL) := q4
          obtain ⟨n0, hn0⟩ := q2
          refine ⟨l, some (b, k, v), rfl, rfl, hid ⟨q1, ⟨n0 + nq, by rw [hn0, World.drewN_drewN]⟩, Tr.At.heap (w := wr) (w' := wr.drewN nq) rfl q3.2.1, q4'.left, ?_⟩⟩
          rw [← q5]
          exact (find_low (p := fun e : En => kl text e.2.1) (c := (b, k, v)) HF.out o).symm
        case measure => exact HM.out.1

set_option maxRecDepth 100000 in
set_option maxHeartbeats 2000000 in
theorem least45 {cm : Value × Value} (p g : Nat) (text : ByteArray) (t : Tr) (w : World) (ht : Tb cm w p t) (hg : Bx w g text) :
    Calls Try.prog 65 #[.pointer (some ⟨p, 0, none⟩), .func (.func 66) #[] #[.pointer (some ⟨g, 0, none⟩)]] w fun x w' => x = .returned (optP (geqE text t.toL)) ∧ ∃ n, w' = w.drewN n := by
  obtain ⟨c0, c1, -, -⟩ := cells4 ht.blk
  generalize hP : (fun (x : Ending) (w' : World) => x = .returned (optP (geqE text t.toL)) ∧ ∃ n, w' = w.drewN n) = P
  have HP := hid hP
  have HT := hid (And.intro ht hg)
  clear hP ht hg c1
  go_enter Try.func65, Try.ntmps65
  go_wp2
  go_loopw [5, 6] (fun f i wr => ∃ (s : Tr) (o : Option En), f = optP o ∧ i = s.ptr ∧ Hid (wr.heap = w.heap ∧ (∃ n, wr = w.drewN n) ∧ s.At 96 wr ∧ Rises s.toL ∧ (s.toL.find? (fun e => !kl e.2.1 text)).or o = geqE text t.toL)) (fun _ i wr => hOf wr i)
  case atStart => exact ⟨t, none, rfl, rfl, hid ⟨rfl, ⟨0, rfl⟩, HT.out.1.at_, HT.out.1.rs, by simp [geqE]⟩⟩
  case round =>
    obtain ⟨s, o, rfl, rfl, hr⟩ := hrel
    cases s with
    | nil =>
      show Code.wp _ _ _ { tmps := #[_, _, _, _, _, _, .pointer none, _, _, _, _, _, _, _, _, _, _, _, _, _, _, _, _, _, _, _, _, _, _, _, _], defers := _ } _
      go_wp2
      rw [← HP.out]
      refine ⟨?_, hr.out.2.1⟩
      have := hr.out.2.2.2.2
      simp only [Tr.toL, List.find?_nil, Option.none_or] at this
      rw [← this]
      rfl
    | node b k v l r =>
      show Code.wp _ _ _ { tmps := #[_, _, _, _, _, _, .pointer (some ⟨b, 0, none⟩), _, _, _, _, _, _, _, _, _, _, _, _, _, _, _, _, _, _, _, _, _, _, _, _], defers := _ } _
      have d0 := (cells5 hr.out.2.2.1.1).1
      have d2 := (cells5 hr.out.2.2.1.1).2.2.1
      have d3 := (cells5 hr.out.2.2.1.1).2.2.2.1
      have hh : hOf wr (.pointer (some ⟨b, 0, none⟩)) = (Tr.node b k v l r).ht := hOf_at hr.out.2.2.1
      have e1 : hOf wr l.ptr = l.ht := hOf_at hr.out.2.2.1.2.1
      have e2 : hOf wr r.ptr = r.ht := hOf_at hr.out.2.2.1.2.2
      have HM := hid (show hOf wr l.ptr < hOf wr (.pointer (some ⟨b, 0, none⟩)) ∧ hOf wr r.ptr < hOf wr (.pointer (some ⟨b, 0, none⟩)) from by
        rw [hh, e1, e2]
        simp only [Tr.ht]
        omega)
      clear hh e1 e2
      have FF := hid (far45 g k text wr (by rw [Bx, hr.out.1]; exact HT.out.2))
      cases hf : (!kl k text)
      · have F2 := hid (hf ▸ FF.out)
        have HF := hid hf
        clear FF hf
        go_wp2_with (
          go_at_call 66
          refine F2.out.mono ?_
          rintro e w1 ⟨rfl, e1⟩
          rw [e1]
          clear e1 w1)
        go_roundw
        case rel =>
          obtain ⟨q1, q2, q3, q4, q5⟩ := hr.out
          have q4' : Rises (l.toL ++ (b, k, v) :: r.toL) := q4
          refine ⟨r, o, rfl, rfl, hid ⟨q1, q2, q3.2.2, q4'.right.tail, ?_⟩⟩
          rw [← q5]
          exact (find_high (p := fun e : En => !kl e.2.1 text) (c := (b, k, v)) HF.out (far_mono45 q4') o).symm
        case measure => exact HM.out.2
      · have F2 := hid (hf ▸ FF.out)
        have HF := hid hf
        clear FF hf
        go_wp2_with (
          go_at_call 66
          refine F2.out.mono ?_
          rintro e w1 ⟨rfl, e1⟩
          rw [e1]
          clear e1 w1)
        go_quiet (fail)
        go_wp2
        go_roundw
        case rel =>
          obtain ⟨q1, q2, q3, q4, q5⟩ := hr.out
          have q4' : Rises (l.toL ++ (b, k, v) :: r.toL) := q4
          obtain ⟨n0, hn0⟩ := q2
          refine ⟨l, some (b, k, v), rfl, rfl, hid ⟨q1, ⟨n0 + nq, by rw [hn0, World.drewN_drewN]⟩, Tr.At.heap (w := wr) (w' := wr.drewN nq) rfl q3.2.1, q4'.left, ?_⟩⟩
          rw [← q5]
          exact (find_low (p := fun e : En => !kl e.2.1 text) (c := (b, k, v)) HF.out o).symm
        case measure => exact HM.out.1

end Go.Proofs.Ythjggbcppgbdoab.V
