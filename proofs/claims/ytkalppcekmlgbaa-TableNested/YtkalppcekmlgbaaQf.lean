import Derived.Test.YtkalppcekmlgbaaQe
namespace Go.Proofs.Ytkalppcekmlgbaa
open Go.RowKit

/-- The document's blocks alone are written. -/
theorem sp_book {B : Nat} {w w2 : World} {o : Option Addr} {t : Tr} {b : Nat} {vl vl' : Value} {l l' : List Pr} (h : St B w o t b vl l) (hk : BkP B w w2 b vl vl' l') (mt : Mt t l') (sh : ∀ q ∈ l', q.1.size ≤ 281474976710656) (cn : ∀ p : ByteArray → Bool, l'.countP (fun e => p e.1) ≤ l.countP (fun e => p e.1) + 1) : Sp B w w2 o t b vl l t vl' l' := by
  refine ⟨⟨?_, h.lo, h.ow, h.hb, hk.bk, mt, sh⟩, hk.kp.mono (fun i _ e => .inr (.inr e)), ?_, cn⟩
  · rcases h.to with ⟨h2, h3⟩ | ⟨p, h2, h3⟩
    · exact .inl ⟨h2, h3⟩
    · obtain ⟨f1, f2, f3, f4⟩ := ft_types h3 h.bk
      refine .inr ⟨p, h2, h3.kept hk.kp ?_ ?_⟩
      · rintro (e | e)
        · exact f1 e.symm
        · exact f3 e
      · rintro i hi (e | e)
        · exact f2 (e ▸ hi)
        · exact f4 i hi e
  · rintro k (hk2 | hk2 | hk2 | hk2)
    · exact .inl (.inl hk2)
    · exact .inl (.inr (.inl hk2))
    · exact .inl (.inr (.inr (.inl hk2)))
    · rcases hk.ow with e | e | ⟨m, h1, e⟩
      · rw [e] at hk2; exact .inl (.inr (.inr (.inr hk2)))
      · rw [e] at hk2; cases hk2
      · rw [e] at hk2; injection hk2 with hk2; exact .inr (by omega)

theorem TO.some {w : World} {p : Nat} {t : Tr} (h : TO w (some ⟨p, 0, none⟩) t) : Tb w p t := by
  rcases h with ⟨e, _⟩ | ⟨p', e, h3⟩
  · cases e
  · injection e with e; injection e with e; subst e; exact h3

theorem short_of {t : Tr} {l : List Pr} (h : Mt t l) (hs : ∀ p ∈ l, p.1.size ≤ 281474976710656) : Short t := by
  intro e he
  have : e.2 ∈ t.toL.map (fun e => e.2) := List.mem_map.2 ⟨e, he, rfl⟩
  rw [h] at this
  obtain ⟨p, hp, hq⟩ := List.mem_map.1 this
  rw [← hq]
  exact hs p hp

abbrev sxV (x : Sx) : Value := .agg #[.int .i64 x.kind, .string x.key, .string x.to, .int .i64 x.v, .int .i64 x.stop]

set_option maxRecDepth 100000 in
set_option maxHeartbeats 2000000 in
theorem one_get (B : Nat) (o : Option Addr) (t : Tr) (b : Nat) (vl : Value) (l : List Pr) (x : Sx) (w : World) (h : St B w o t b vl l) (hl : l.length ≤ 500000) (h1 : x.kind = 3) :
    Calls Try.prog 20 #[.pointer o, .pointer (some ⟨b, 0, none⟩), .agg #[.int .i64 x.kind, .string x.key, .string x.to, .int .i64 x.v, .int .i64 x.stop]] w (OneP B w o t b vl l) := by
  obtain ⟨kind, key, to, n, stop⟩ := x
  simp only at h1 ⊢
  subst h1
  obtain ⟨W, hW⟩ : ∃ W, W = w.alloc (sxB ⟨3, key, to, n, stop⟩) := ⟨_, rfl⟩
  have hbW : Below w.heap.size w W := by rw [hW]; exact below_new _ _
  have hblk : W.heap[w.heap.size]? = some (sxB ⟨3, key, to, n, stop⟩) := by rw [hW]; exact hp_new _ _
  have hS := h.below hbW
  obtain ⟨y0, y1, -⟩ := cells5 hblk
  have hsz : ∀ k, ft o t b vl k → k < w.heap.size := fun k hk => (h.lt k hk).2
  obtain ⟨ga, gc, hg⟩ := bgetV_form key l
  have A1 := hid (show Calls Try.prog 24 #[.pointer o, .string key] W fun x w1 => x = .returned (.tuple #[.int .i64 ga, .bool gc]) ∧ w1.heap[w.heap.size]? = some (sxB ⟨3, key, to, n, stop⟩) ∧ Below W.heap.size W w1 from by
    refine (get_any o key t W hS.to).mono ?_
    rintro x w1 ⟨rfl, hb⟩
    exact ⟨by rw [h.mt.get hS.to.rs, hg], hp_below hblk hb (hp_lt hblk), hb⟩)
  have A2 := hid (show ∀ w1, Below W.heap.size W w1 → Calls Try.prog 18 #[.pointer (some ⟨b, 0, none⟩), .string key] w1 fun x w2 => x = .returned (.tuple #[.int .i64 ga, .bool gc]) ∧ w2 = w1 from by
    intro w1 hb
    refine (bget_any B b vl l key w1 (hS.below hb).bk (by omega)).mono ?_
    rintro x w2 ⟨rfl, rfl⟩
    exact ⟨by rw [hg], rfl⟩)
  have HF := hid (fun (w1 : World) (hb : Below W.heap.size W w1) => Sp.same h (below_on hbW hb))
  have HW := hid hW
  clear h hS hblk hbW hW hsz hg
  go_enter Try.func20, Try.ntmps20
  go_wp2_with (first
    | (go_at_call 24
       rw [← HW.out]
       refine A1.out.mono ?_
       rintro e w1 ⟨rfl, hbk, hb⟩
       have z1 := (cells5 hbk).2.1
       have N1 := hid hb
       clear hb hbk)
    | (go_at_call 18
       refine (A2.out w1 N1.out).mono ?_
       rintro e w2 ⟨rfl, e2⟩
       rw [e2]
       clear e2 w2))
  go_ret
  exact ⟨rfl, _, _, _, HF.out w1 N1.out⟩

set_option maxRecDepth 100000 in
set_option maxHeartbeats 2000000 in
theorem one_next (B : Nat) (o : Option Addr) (t : Tr) (b : Nat) (vl : Value) (l : List Pr) (x : Sx) (w : World) (h : St B w o t b vl l) (hl : l.length ≤ 500000) (h1 : x.kind = 4) :
    Calls Try.prog 20 #[.pointer o, .pointer (some ⟨b, 0, none⟩), .agg #[.int .i64 x.kind, .string x.key, .string x.to, .int .i64 x.v, .int .i64 x.stop]] w (OneP B w o t b vl l) := by
  obtain ⟨kind, key, to, n, stop⟩ := x
  simp only at h1 ⊢
  subst h1
  obtain ⟨W, hW⟩ : ∃ W, W = w.alloc (sxB ⟨4, key, to, n, stop⟩) := ⟨_, rfl⟩
  have hbW : Below w.heap.size w W := by rw [hW]; exact below_new _ _
  have hblk : W.heap[w.heap.size]? = some (sxB ⟨4, key, to, n, stop⟩) := by rw [hW]; exact hp_new _ _
  have hS := h.below hbW
  obtain ⟨y0, y1, -⟩ := cells5 hblk
  have hsz : ∀ k, ft o t b vl k → k < w.heap.size := fun k hk => (h.lt k hk).2
  obtain ⟨ga, gc, hg⟩ := bnextV_form key l
  have A1 := hid (show Calls Try.prog 23 #[.pointer o, .string key] W fun x w1 => x = .returned (.tuple #[.string ga, .bool gc]) ∧ w1.heap[w.heap.size]? = some (sxB ⟨4, key, to, n, stop⟩) ∧ Below W.heap.size W w1 from by
    refine (next_any o key t W hS.to (short_of h.mt h.sh)).mono ?_
    rintro x w1 ⟨rfl, hb⟩
    exact ⟨by rw [h.mt.next hS.to.rs, hg], hp_below hblk hb (hp_lt hblk), hb⟩)
  have A2 := hid (show ∀ w1, Below W.heap.size W w1 → Calls Try.prog 17 #[.pointer (some ⟨b, 0, none⟩), .string key] w1 fun x w2 => x = .returned (.tuple #[.string ga, .bool gc]) ∧ w2 = w1 from by
    intro w1 hb
    refine (bnext_any B b vl l key w1 (hS.below hb).bk (by omega)).mono ?_
    rintro x w2 ⟨rfl, rfl⟩
    exact ⟨by rw [hg], rfl⟩)
  have HF := hid (fun (w1 : World) (hb : Below W.heap.size W w1) => Sp.same h (below_on hbW hb))
  have HW := hid hW
  clear h hS hblk hbW hW hsz hg
  go_enter Try.func20, Try.ntmps20
  go_wp2_with (first
    | (go_at_call 23
       rw [← HW.out]
       refine A1.out.mono ?_
       rintro e w1 ⟨rfl, hbk, hb⟩
       have z1 := (cells5 hbk).2.1
       have N1 := hid hb
       clear hb hbk)
    | (go_at_call 17
       refine (A2.out w1 N1.out).mono ?_
       rintro e w2 ⟨rfl, e2⟩
       rw [e2]
       clear e2 w2))
  go_ret
  exact ⟨rfl, _, _, _, HF.out w1 N1.out⟩

set_option maxRecDepth 100000 in
set_option maxHeartbeats 2000000 in
theorem one_del (B : Nat) (o : Option Addr) (t : Tr) (b : Nat) (vl : Value) (l : List Pr) (x : Sx) (w : World) (h : St B w o t b vl l) (hl : l.length ≤ 500000) (h1 : x.kind = 2) :
    Calls Try.prog 20 #[.pointer o, .pointer (some ⟨b, 0, none⟩), .agg #[.int .i64 x.kind, .string x.key, .string x.to, .int .i64 x.v, .int .i64 x.stop]] w (OneP B w o t b vl l) := by
  obtain ⟨kind, key, to, n, stop⟩ := x
  simp only at h1 ⊢
  subst h1
  obtain ⟨W, hW⟩ : ∃ W, W = w.alloc (sxB ⟨2, key, to, n, stop⟩) := ⟨_, rfl⟩
  have hbW : Below w.heap.size w W := by rw [hW]; exact below_new _ _
  have hblk : W.heap[w.heap.size]? = some (sxB ⟨2, key, to, n, stop⟩) := by rw [hW]; exact hp_new _ _
  have hS := h.below hbW
  obtain ⟨y0, y1, -⟩ := cells5 hblk
  have hsz : ∀ k, ft o t b vl k → k < w.heap.size := fun k hk => (h.lt k hk).2
  obtain ⟨ga, gc, hg⟩ := bgetV_form key l
  have A1 := hid (show Calls Try.prog 25 #[.pointer o, .string key] W fun x w1 => x = .returned (.tuple #[.int .i64 ga, .bool gc]) ∧ w1.heap[w.heap.size]? = some (sxB ⟨2, key, to, n, stop⟩) ∧ Hid (∀ w2 vl', BkP B w1 w2 b vl vl' (bcut key l) → ∃ t' vl' l', Sp B w w2 o t b vl l t' vl' l') ∧ Hid (Bk B w1 b vl l ∧ B ≤ w1.heap.size) from by
    have hgv := h.mt.get hS.to.rs key
    rw [hg] at hgv
    have hBb := hS.lt b (.inr (.inr (.inl rfl)))
    have hh := ent_has h.mt hS.to.rs key
    cases hq : ent key t.toL with
    | none =>
      rw [hq] at hh
      have hc : bcut key l = l := bcut_none hh.symm
      refine (delete_none o key t W hS.to hq).mono ?_
      rintro x w1 ⟨rfl, hb⟩
      have h1 := hS.below hb
      refine ⟨by rw [← hgv, getV, hq], hp_below hblk hb (hp_lt hblk), hid (fun w2 vl' hk => ?_), hid ⟨h1.bk, by have := hb.size; omega⟩⟩
      rw [hc] at hk
      exact ⟨_, _, _, Sp.from (below_on hbW hb) (sp_book h1 hk h.mt h.sh (fun _ => Nat.le_succ _))⟩
    | some c =>
      obtain ⟨cb, ck, cv⟩ := c
      have ho : ∃ p, o = some ⟨p, 0, none⟩ := by
        rcases h.to with ⟨_, rfl⟩ | ⟨p, h2, _⟩
        · cases hq
        · exact ⟨p, h2⟩
      obtain ⟨p, rfl⟩ := ho
      have htb := hS.to.some
      refine (delete_some p key t W htb (by rw [h.mt.len]; omega) hq).mono ?_
      rintro x w1 ⟨t', rfl, hp⟩
      have hb1 := bk_after htb hS.bk hp.kp
      refine ⟨by rw [← hgv, getV, hq], hp_kept hblk hp.kp ?_, hid (fun w2 vl' hk => ?_), hid ⟨hb1, by have := hp.kp.size; omega⟩⟩
      · rintro (e | e)
        · have := hsz p (.inl rfl); omega
        · have := hsz _ (.inr (.inl e)); omega
      · exact ⟨t', vl', _, Sp.from hbW (sp_both hS htb hp.tb hp.kp (fun i hi => .inl (hp.nw i hi)) hb1 hk (h.mt.del htb.rs hp) (fun q hq => h.sh q (mem_bcut hq)) (bcut_cnt key l))⟩)
  have A2 := hid (show ∀ w1, Bk B w1 b vl l ∧ B ≤ w1.heap.size → Calls Try.prog 32 #[.pointer (some ⟨b, 0, none⟩), .string key] w1 fun x w2 => x = .returned (.tuple #[.int .i64 ga, .bool gc]) ∧ ∃ vl', BkP B w1 w2 b vl vl' (bcut key l) from by
    rintro w1 ⟨hb1, hB⟩
    refine (bcut_any B b vl l key w1 hb1 hB (by omega)).mono ?_
    rintro x w2 ⟨vl', rfl, hk⟩
    exact ⟨by rw [hg], vl', hk⟩)
  have HW := hid hW
  clear h hS hblk hbW hW hsz hg
  go_enter Try.func20, Try.ntmps20
  go_wp2_with (first
    | (go_at_call 25
       rw [← HW.out]
       refine A1.out.mono ?_
       rintro e w1 ⟨rfl, hbk, N1, N2⟩
       have z1 := (cells5 hbk).2.1
       clear hbk)
    | (go_at_call 32
       refine (A2.out w1 N2.out).mono ?_
       rintro e w2 ⟨rfl, vl', hp⟩
       have N3 := hid hp
       clear hp))
  go_ret
  exact ⟨rfl, N1.out w2 vl' N3.out⟩

set_option maxRecDepth 100000 in
set_option maxHeartbeats 2000000 in
theorem one_len (B : Nat) (o : Option Addr) (t : Tr) (b : Nat) (vl : Value) (l : List Pr) (x : Sx) (w : World) (h : St B w o t b vl l) (_hl : l.length ≤ 500000) (h1 : x.kind = 5) :
    Calls Try.prog 20 #[.pointer o, .pointer (some ⟨b, 0, none⟩), .agg #[.int .i64 x.kind, .string x.key, .string x.to, .int .i64 x.v, .int .i64 x.stop]] w (OneP B w o t b vl l) := by
  obtain ⟨kind, key, to, n, stop⟩ := x
  simp only at h1 ⊢
  subst h1
  obtain ⟨W, hW⟩ : ∃ W, W = w.alloc (sxB ⟨5, key, to, n, stop⟩) := ⟨_, rfl⟩
  have hbW : Below w.heap.size w W := by rw [hW]; exact below_new _ _
  have hblk : W.heap[w.heap.size]? = some (sxB ⟨5, key, to, n, stop⟩) := by rw [hW]; exact hp_new _ _
  have hS := h.below hbW
  obtain ⟨y0, y1, -⟩ := cells5 hblk
  have hsz : ∀ k, ft o t b vl k → k < w.heap.size := fun k hk => (h.lt k hk).2
  have c0 := cells1 hS.bk.blk
  obtain ⟨ao, cap, e⟩ := own_shape hS.bk.own
  rw [e] at c0
  have LN := hid (show ∀ m, Calls Try.prog 19 #[.pointer o] (W.drewN m) fun x w' => x = .returned (.int .i64 l.length) ∧ w' = W.drewN m from fun m => by
    rw [← h.mt.len]
    exact len_any o t _ (TO.heap (w := W) (w' := W.drewN m) rfl hS.to))
  have HF := hid (fun (m : Nat) => Sp.same h (blw_drewN (n := m) hbW))
  have HW := hid hW
  clear h hS hblk hbW hW hsz e
  go_enter Try.func20, Try.ntmps20
  go_upto_region 19 with (fail)
  rw [← HW.out]
  go_quiet ((first | (go_at_call 19; exact Calls.quiet_of_same (LN.out _))))
  go_wp2
  go_ret
  exact ⟨rfl, _, _, _, HF.out nq⟩

set_option maxRecDepth 100000 in
set_option maxHeartbeats 2000000 in
theorem one_idle (B : Nat) (o : Option Addr) (t : Tr) (b : Nat) (vl : Value) (l : List Pr) (x : Sx) (w : World) (h : St B w o t b vl l) (h1 : x.kind ≠ 1) (h2 : x.kind ≠ 2) (h3 : x.kind ≠ 3) (h4 : x.kind ≠ 4) (h5 : x.kind ≠ 5) :
    Calls Try.prog 20 #[.pointer o, .pointer (some ⟨b, 0, none⟩), .agg #[.int .i64 x.kind, .string x.key, .string x.to, .int .i64 x.v, .int .i64 x.stop]] w (OneP B w o t b vl l) := by
  have HF := hid (Sp.same h (below_new w (sxB x)))
  have g1 := kind_false h1
  have g2 := kind_false h2
  have g3 := kind_false h3
  have g4 := kind_false h4
  have g5 := kind_false h5
  obtain ⟨kind, key, to, n, stop⟩ := x
  simp only at g1 g2 g3 g4 g5 HF ⊢
  clear h h1 h2 h3 h4 h5
  go_enter Try.func20, Try.ntmps20
  go_wp2
  go_ret
  exact ⟨rfl, _, _, _, HF.out⟩

/-- Any step on a table. -/
theorem one_any (B p : Nat) (t : Tr) (b : Nat) (vl : Value) (l : List Pr) (x : Sx) (w : World) (h : St B w (some ⟨p, 0, none⟩) t b vl l) (hk : x.key.size ≤ 281474976710656) (hl : l.length ≤ 500000) :
    Calls Try.prog 20 #[.pointer (some ⟨p, 0, none⟩), .pointer (some ⟨b, 0, none⟩), sxV x] w (OneP B w (some ⟨p, 0, none⟩) t b vl l) := by
  by_cases h1 : x.kind = 1
  · exact one_put B p t b vl l x w h hk hl h1
  by_cases h2 : x.kind = 2
  · exact one_del B _ t b vl l x w h hl h2
  by_cases h3 : x.kind = 3
  · exact one_get B _ t b vl l x w h hl h3
  by_cases h4 : x.kind = 4
  · exact one_next B _ t b vl l x w h hl h4
  by_cases h5 : x.kind = 5
  · exact one_len B _ t b vl l x w h hl h5
  · exact one_idle B _ t b vl l x w h h1 h2 h3 h4 h5

/-- On no table, any step but Put. -/
theorem one_none (B : Nat) (o : Option Addr) (t : Tr) (b : Nat) (vl : Value) (l : List Pr) (x : Sx) (w : World) (h : St B w o t b vl l) (h1 : x.kind ≠ 1) (hl : l.length ≤ 500000) :
    Calls Try.prog 20 #[.pointer o, .pointer (some ⟨b, 0, none⟩), sxV x] w (OneP B w o t b vl l) := by
  by_cases h2 : x.kind = 2
  · exact one_del B _ t b vl l x w h hl h2
  by_cases h3 : x.kind = 3
  · exact one_get B _ t b vl l x w h hl h3
  by_cases h4 : x.kind = 4
  · exact one_next B _ t b vl l x w h hl h4
  by_cases h5 : x.kind = 5
  · exact one_len B _ t b vl l x w h hl h5
  · exact one_idle B _ t b vl l x w h h1 h2 h3 h4 h5

end Go.Proofs.Ytkalppcekmlgbaa
