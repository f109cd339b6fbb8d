import Derived.Test.YtlmompdfombgeaaGreatK24
namespace Go.Proofs.YtlmompdfombgeaaGreat
open Go.RowKit Go.MapKept

/-- A change of names in the document's list. -/
def tncs (x : Nmg) : List Value :=
  if x.1.toList.isEmpty then [.int .i64 1, .string x.2.1, .string { data := #[] }, .int .i64 x.2.2]
  else if x.2.1.toList.isEmpty then [.int .i64 3, .string x.1, .string { data := #[] }, .int .i64 0]
  else [.int .i64 2, .string x.1, .string x.2.1, .int .i64 0]

theorem tncs_len (x : Nmg) : (tncs x).length = 4 := by
  unfold tncs
  split
  · rfl
  · split <;> rfl

theorem tncs_one (l : List Nmg) : ∀ u ∈ l.flatMap tncs, u.oneCell' = true := by
  intro u hu
  obtain ⟨x, _, hx⟩ := List.mem_flatMap.1 hu
  unfold tncs at hx
  split at hx
  · simp at hx; rcases hx with rfl | rfl | rfl | rfl <;> rfl
  · split at hx <;> (simp at hx; rcases hx with rfl | rfl | rfl | rfl <;> rfl)

/-- No name is empty. -/
def NE (l : List (ByteArray × Int)) : Prop := ∀ x ∈ l, x.1.toList.isEmpty = false

theorem delA_empty {l : List (ByteArray × Int)} (h : NE l) {k : ByteArray} (hk : k.toList.isEmpty = true) : delA k l = l := delA_none fun x hx e => by
  have := h x hx
  rw [e, hk] at this
  cases this

/-- A change that the document can do as well. -/
structure TDo (l : List (ByteArray × Int)) (x : Nmg) : Prop where
  ne : NE l
  some : x.1.toList.isEmpty = true → x.2.1.toList.isEmpty = false
  ren : x.1.toList.isEmpty = false → x.2.1.toList.isEmpty = false → lo x.1 l = .some x.2.2

theorem cells4 {w : World} {p : Nat} {a b c d : Value} {t : TypeId} (h : w.heap[p]? = some (.cells #[a, b, c, d] t (0, 0))) : w.cell? ⟨p, 0, none⟩ = some a ∧ w.cell? ⟨p, 1, none⟩ = some b ∧ w.cell? ⟨p, 2, none⟩ = some c ∧ w.cell? ⟨p, 3, none⟩ = some d := by
  refine ⟨?_, ?_, ?_, ?_⟩ <;> (rw [cell_of_row _ _ _ _ _ _ h]; rfl)

set_option maxRecDepth 100000 in
set_option maxHeartbeats 3200000 in
theorem turned_any (v : Value) (l : List (ByteArray × Int)) (x : Nmg) (w : World) (h : Nl w v l) (hl : l.length ≤ 100000) (ht : TDo l x) (c0 c1 c2 c3 : Value) (hcs : tncs x = [c0, c1, c2, c3]) :
    Calls Tryz.prog 129 #[v, .agg #[c0, c1, c2, c3]] w fun e w' => ∃ v', e = .returned v' ∧ No w' w.heap.size v' (rdo l x) ∧ Below w.heap.size w w' := by
  obtain ⟨ao, cap, rfl, hc, hcm⟩ := h.shape
  obtain ⟨x1, x2, x3⟩ := x
  obtain ⟨t1, t2, t3⟩ := ht
  have hba := bel_al w (.cells #[c0, c1, c2, c3] 146)
  have H := hid (And.intro (h.below hba) hba)
  have hblk := hp_new w (.cells #[c0, c1, c2, c3] 146)
  have HB := hid hblk
  clear h hba
  cases e1 : x1.toList.isEmpty
  · cases e2 : x2.toList.isEmpty
    · have hlo := t3 e1 e2
      dsimp only at hlo
      simp only [tncs, e1, e2, Bool.false_eq_true, if_false] at hcs
      injection hcs with q0 hcs; injection hcs with q1 hcs; injection hcs with q2 hcs; injection hcs with q3 _
      subst q0 q1 q2 q3
      have hrd : rdo l (x1, x2, x3) = wthA x2 x3 (delA x1 l) := by simp [rdo, e2]
      rw [hrd]
      have hof : (lo x1 l).getD 0 = x3 := by rw [hlo]; rfl
      have hofc := fun (W : World) (hW : Nl W (.slice ao l.length cap) l) => of_any (.slice ao l.length cap) l x1 W hW hl
      rw [hof] at hofc
      have HOF := hid hofc
      have hdl := delA_len x1 l
      clear hrd hlo t1 t2 t3 e1 e2 hof hofc hblk
      go_enter Tryz.func129, Tryz.ntmps129
      go_upto_region 1 with fail
      refine cutG (fun W => Nl W (.slice ao l.length cap) l ∧ Below w.heap.size w W ∧ W.heap[w.heap.size]? = some (.cells #[.int .i64 2, .string x1, .string x2, .int .i64 0] 146 (0, 0))) ⟨H.out.1, H.out.2, HB.out⟩ ?_
      rintro W ⟨hW1, hW2, hW3⟩
      obtain ⟨y0, y1, y2, y3⟩ := cells4 hW3
      have HNL := hid (fun (W' : World) (hb : Below W.heap.size W W') => hW1.below hb)
      have HCL := hid (fun (W' : World) (hb : Below W.heap.size W W') => And.intro (cells4 (hp_below hW3 hb (hp_lt hW3))).2.1 (cells4 (hp_below hW3 hb (hp_lt hW3))).2.2.1)
      have HW := hid hW2
      have HBd := hid (show Below W.heap.size W W.drew from ⟨rfl, rfl, rfl, Nat.le_refl _, fun _ _ => rfl⟩)
      clear H HB hW1 hW2 hW3
      go_upto_region 5 with fail
      clear y0 y3
      go_region_held (fun wx => wx.cell? ⟨w.heap.size, 1, none⟩ = some (.string x1) ∧ wx.cell? ⟨w.heap.size, 2, none⟩ = some (.string x2)) (first | exact HCL.out _ HB3.out | exact HCL.out _ HB1.out | exact HCL.out _ HBd.out) (first
        | (go_at_call 115
           refine (without_any _ l x1 _ (HNL.out _ HBd.out) hl).mono ?_
           rintro e w1 ⟨v1, rfl, ho1, hb1⟩
           obtain ⟨a1, c1, rfl⟩ := own_shape ho1
           have HB1 := hid (bel_on HBd.out hb1)
           have HO1 := hid ho1
           clear hb1 ho1)
        | (go_at_call 127
           refine (HOF.out _ (HNL.out _ (by first | exact HB1.out | exact HBd.out))).mono ?_
           rintro e w2 ⟨rfl, e2⟩
           rw [e2]
           clear e2 w2)
        | (go_at_call 116
           refine (with_any _ (delA x1 l) x2 x3 _ HO1.out.nl (by omega)).mono ?_
           rintro e w3 ⟨v3, rfl, ho3, hb3⟩
           have HB3 := hid (bel_on HB1.out hb3)
           have H3 := hid (And.intro ho3 hb3)
           clear hb3 ho3))
      all_goals
        go_wp2
        go_ret
        exact ⟨_, rfl, owns_mono H3.out.1 (bel_on HW.out HB1.out).size, bel_on (bel_on HW.out HB1.out) H3.out.2⟩
    · simp only [tncs, e1, e2, Bool.false_eq_true, if_false, if_true] at hcs
      injection hcs with q0 hcs; injection hcs with q1 hcs; injection hcs with q2 hcs; injection hcs with q3 _
      subst q0 q1 q2 q3
      have hrd : rdo l (x1, x2, x3) = delA x1 l := by simp [rdo, e2]
      rw [hrd]
      clear hrd t1 t2 t3 e1 e2 hblk
      obtain ⟨y0, y1, y2, y3⟩ := cells4 HB.out
      go_enter Tryz.func129, Tryz.ntmps129
      go_wp2_with (
        go_at_call 115
        refine (without_any _ l x1 _ H.out.1 hl).mono ?_
        rintro e w1 ⟨v1, rfl, ho1, hb1⟩
        have H1 := hid (And.intro ho1 hb1)
        clear ho1 hb1)
      go_ret
      exact ⟨_, rfl, owns_mono H1.out.1 H.out.2.size, bel_on H.out.2 H1.out.2⟩
  · have e2 := t2 e1
    dsimp only at e2
    simp only [tncs, e1, if_true] at hcs
    injection hcs with q0 hcs; injection hcs with q1 hcs; injection hcs with q2 hcs; injection hcs with q3 _
    subst q0 q1 q2 q3
    have hrd : rdo l (x1, x2, x3) = wthA x2 x3 l := by simp only [rdo, e2, Bool.false_eq_true, if_false]; rw [delA_empty t1 e1]
    rw [hrd]
    clear hrd t1 t2 t3 e1 e2 hblk
    obtain ⟨y0, y1, y2, y3⟩ := cells4 HB.out
    go_enter Tryz.func129, Tryz.ntmps129
    go_wp2_with (
      go_at_call 116
      refine (with_any _ l x2 x3 _ H.out.1 hl).mono ?_
      rintro e w1 ⟨v1, rfl, ho1, hb1⟩
      have H1 := hid (And.intro ho1 hb1)
      clear ho1 hb1)
    go_ret
    exact ⟨_, rfl, owns_mono H1.out.1 H.out.2.size, bel_on H.out.2 H1.out.2⟩

end Go.Proofs.YtlmompdfombgeaaGreat

namespace Go.Proofs.YtlmompdfombgeaaGreat
open Go.RowKit Go.MapKept

/-- Where the parts of the document's disk lie. -/
structure Rt where
  lv : Value
  nv : Value
  tv : Value
  sv : Value
  rv : Value
  bv : Int → Value
  pv : Int → Value
  ps : Int → List (Chg × Value)
  sn : List (ByteArray × Int)
  ro : Nat → Prop
  wo : Nat → Prop

/-- Its blocks. -/
def Rft (r : Nat) (R : Rt) (k : Nat) : Prop := k = r ∨ R.ro k ∨ R.wo k

/-- A file in its list. -/
def rfcs (R : Rt) (f : Fi) : List Value := [.int .i64 f.no, R.bv f.no, R.pv f.no]

/-- The document's disk in the heap. -/
structure RdT (w : World) (r : Nat) (R : Rt) (D : Dq) : Prop where
  disk : w.heap[r]? = some (.cells #[.int .i64 D.room, .int .i64 D.limit, .int .i64 D.made, R.lv, R.nv, R.tv, R.sv, R.rv, .int .i64 D.st, .int .i64 D.rd, .bool D.off] 58 (0, 0))
  lis : w.ownsRow 0 141 3 R.lv D.files.length (D.files.flatMap (rfcs R))
  nms : Nl w R.nv R.sn
  ns : Nms R.sn D.safeN
  tur : w.ownsRow 0 146 4 R.tv D.turns.length (D.turns.flatMap tncs)
  saf : ∀ f ∈ D.files, Sn w (R.bv f.no) f.safe
  pen : ∀ f ∈ D.files, w.ownsRow 0 148 3 (R.pv f.no) f.cs.length ((R.ps f.no).flatMap ccs)
  pfs : ∀ f ∈ D.files, (R.ps f.no).map Prod.fst = f.cs
  pda : ∀ f ∈ D.files, ∀ p ∈ R.ps f.no, p.2.oneCell' = true ∧ ∀ ys, p.1 = .inl ys → Sn w p.2 ys
  dis : ∀ f ∈ D.files, ∀ g ∈ D.files, f.no ≠ g.no → ∀ k, (R.pv f.no).ownBlock = some k → (R.pv g.no).ownBlock ≠ some k
  fs : Fl w R.sv D.fs
  fr : Fl w R.rv D.fr
  fl : ∀ k, R.lv.ownBlock = some k → R.wo k
  fn : ∀ k, R.nv.ownBlock = some k → R.ro k
  fu : ∀ k, R.tv.ownBlock = some k → R.wo k
  f1 : ∀ k, R.sv.ownBlock = some k → R.ro k
  f2 : ∀ k, R.rv.ownBlock = some k → R.ro k
  fb : ∀ f ∈ D.files, ∀ k, (R.bv f.no).ownBlock = some k → R.ro k
  fp : ∀ f ∈ D.files, ∀ k, (R.pv f.no).ownBlock = some k → R.wo k
  fd : ∀ f ∈ D.files, ∀ p ∈ R.ps f.no, ∀ k, p.2.ownBlock = some k → R.ro k
  ap : ∀ k, R.ro k → ¬ R.wo k
  r1 : ¬ R.ro r
  r2 : ¬ R.wo r
  lt : ∀ k, R.ro k ∨ R.wo k → k < w.heap.size

/-- Nothing of it is written but the block itself. -/
theorem RdT.head {w w' : World} {r : Nat} {R : Rt} {D D' : Dq} {S : Nat → Prop} (h : RdT w r R D) (hk : Kept S w w') (hs : ∀ k, R.ro k ∨ R.wo k → ¬ S k)
    (hd : w'.heap[r]? = some (.cells #[.int .i64 D'.room, .int .i64 D'.limit, .int .i64 D'.made, R.lv, R.nv, R.tv, R.sv, R.rv, .int .i64 D'.st, .int .i64 D'.rd, .bool D'.off] 58 (0, 0))) (e1 : D'.files = D.files) (e2 : D'.safeN = D.safeN) (e3 : D'.turns = D.turns) (e4 : D'.fs = D.fs) (e5 : D'.fr = D.fr) : RdT w' r R D' where
  disk := hd
  lis := by rw [e1]; exact ownsRow_kept h.lis hk fun k e => hs k (.inr (h.fl k e))
  nms := Rf.kept h.nms hk fun k e => hs k (.inl (h.fn k e))
  ns := by rw [e2]; exact h.ns
  tur := by rw [e3]; exact ownsRow_kept h.tur hk fun k e => hs k (.inr (h.fu k e))
  saf f hf := (h.saf f (e1 ▸ hf)).kept hk fun k e => hs k (.inl (h.fb f (e1 ▸ hf) k e))
  pen f hf := ownsRow_kept (h.pen f (e1 ▸ hf)) hk fun k e => hs k (.inr (h.fp f (e1 ▸ hf) k e))
  pfs f hf := h.pfs f (e1 ▸ hf)
  pda f hf p hp := ⟨(h.pda f (e1 ▸ hf) p hp).1, fun ys e => ((h.pda f (e1 ▸ hf) p hp).2 ys e).kept hk fun k e2 => hs k (.inl (h.fd f (e1 ▸ hf) p hp k e2))⟩
  dis f hf g hg := h.dis f (e1 ▸ hf) g (e1 ▸ hg)
  fs := by rw [e4]; exact Rf.kept h.fs hk fun k e => hs k (.inl (h.f1 k e))
  fr := by rw [e5]; exact Rf.kept h.fr hk fun k e => hs k (.inl (h.f2 k e))
  fl := h.fl
  fn := h.fn
  fu := h.fu
  f1 := h.f1
  f2 := h.f2
  fb f hf := h.fb f (e1 ▸ hf)
  fp f hf := h.fp f (e1 ▸ hf)
  fd f hf := h.fd f (e1 ▸ hf)
  ap := h.ap
  r1 := h.r1
  r2 := h.r2
  lt k e := Nat.lt_of_lt_of_le (h.lt k e) hk.size

/-- Nothing of it is written. -/
theorem RdT.kept {w w' : World} {r : Nat} {R : Rt} {D : Dq} {S : Nat → Prop} (h : RdT w r R D) (hk : Kept S w w') (hs : ∀ k, Rft r R k → ¬ S k) : RdT w' r R D :=
  h.head hk (fun k e => hs k (.inr e)) (hp_kept h.disk hk (hs r (.inl rfl))) rfl rfl rfl rfl rfl

theorem RdT.below {w w' : World} {r : Nat} {R : Rt} {D : Dq} (h : RdT w r R D) (hb : Below w.heap.size w w') : RdT w' r R D := h.kept (Kept.ofBelow hb) (fun _ _ e => e)

/-- From one disk of the document's to another. -/
structure RGoes (r : Nat) (w : World) (R : Rt) (D : Dq) (w' : World) (R' : Rt) (D' : Dq) : Prop where
  rd : RdT w' r R' D'
  kp : Kept (Rft r R) w w'
  ft : ∀ k, Rft r R' k → Rft r R k ∨ w.heap.size ≤ k

theorem RdT.lt' {w : World} {r : Nat} {R : Rt} {D : Dq} (h : RdT w r R D) (k : Nat) (e : Rft r R k) : k < w.heap.size := by
  rcases e with rfl | e
  · exact hp_lt h.disk
  · exact h.lt k e

theorem RGoes.still {r : Nat} {w w' : World} {R : Rt} {D : Dq} (h : RdT w r R D) (hb : Below w.heap.size w w') : RGoes r w R D w' R D := ⟨h.below hb, (Kept.ofBelow hb).mono (fun _ _ e => e.elim), fun _ e => .inl e⟩

theorem RGoes.trans {r : Nat} {w w1 w2 : World} {R R1 R2 : Rt} {D D1 D2 : Dq} (h : RGoes r w R D w1 R1 D1) (h2 : RGoes r w1 R1 D1 w2 R2 D2) : RGoes r w R D w2 R2 D2 :=
  ⟨h2.rd, h.kp.trans h2.kp (fun i hi e => by rcases h.ft i e with e | e; exact e; omega), fun k e => by
    rcases h2.ft k e with e | e
    · exact h.ft k e
    · exact .inr (Nat.le_trans h.kp.size e)⟩

theorem RdT.cells {w : World} {r : Nat} {R : Rt} {D : Dq} (h : RdT w r R D) : w.cell? ⟨r, 0, none⟩ = some (.int .i64 D.room) ∧ w.cell? ⟨r, 1, none⟩ = some (.int .i64 D.limit) ∧ w.cell? ⟨r, 2, none⟩ = some (.int .i64 D.made) ∧ w.cell? ⟨r, 3, none⟩ = some R.lv ∧ w.cell? ⟨r, 4, none⟩ = some R.nv ∧ w.cell? ⟨r, 5, none⟩ = some R.tv ∧ w.cell? ⟨r, 6, none⟩ = some R.sv ∧ w.cell? ⟨r, 7, none⟩ = some R.rv ∧ w.cell? ⟨r, 8, none⟩ = some (.int .i64 D.st) ∧ w.cell? ⟨r, 9, none⟩ = some (.int .i64 D.rd) ∧ w.cell? ⟨r, 10, none⟩ = some (.bool D.off) := by
  refine ⟨?_, ?_, ?_, ?_, ?_, ?_, ?_, ?_, ?_, ?_, ?_⟩ <;> (rw [cell_of_row _ _ _ _ _ _ h.disk]; rfl)

theorem nmOK_ne {nm : ByteArray} (h : nmOK nm = true) : nm.toList.isEmpty = false := by
  rw [Lib.toList_data]
  have h1 : 1 ≤ nm.size := by
    unfold nmOK at h
    rw [Bool.and_eq_true, Bool.and_eq_true] at h
    exact of_decide_eq_true h.1.1
  have h3 : nm.data.toList.length = nm.size := rfl
  revert h3
  cases nm.data.toList with
  | nil => intro h3; have h3 : (0 : Nat) = nm.size := h3; omega
  | cons a l => intro _; rfl

theorem nok_ne {fs : List Fi} {l l' : List (ByteArray × Int)} (h : NOK fs l) (hp : l'.Perm l) : NE l' := fun x hx => nmOK_ne (h.ok x (hp.mem_iff.1 hx))

/-- Each change of names is one that the document does as well. -/
theorem RdT.tdo {w : World} {r : Nat} {R : Rt} {D : Dq} {n : Nat} (h : RdT w r R D) (hW : WD n D) (hT : TOK D) (i : Nat) (x : Nmg) (hx : D.turns[i]? = some x) : TDo (rnm R.sn D.turns i) x := by
  obtain ⟨f, t, m⟩ := x
  obtain ⟨h1, h2⟩ := hT i f t m hx
  have hn := h.ns.at (D := D) i
  exact ⟨nok_ne (hW.saf i) hn.p, h1, fun a b => by rw [hn.lo (hW.saf i).k]; exact h2 a b⟩

theorem RdT.nlen {w : World} {r : Nat} {R : Rt} {D : Dq} {n : Nat} (h : RdT w r R D) (hW : WD n D) (i : Nat) : (rnm R.sn D.turns i).length ≤ 512 := by
  have hn := (h.ns.at (D := D) i).p.length_eq
  have h1 := hW.nlen (hW.saf i)
  have h2 := hW.cnt
  have h3 := hW.lim
  omega

set_option maxRecDepth 100000 in
set_option maxHeartbeats 3200000 in
theorem names_any {w : World} {r : Nat} {R : Rt} {D : Dq} (h : RdT w r R D) (m : Nat) (hm : m ≤ D.turns.length) (htl : D.turns.length ≤ 1000000) (ht : ∀ i x, i < m → D.turns[i]? = some x → TDo (rnm R.sn D.turns i) x) (hl : ∀ i, i ≤ m → (rnm R.sn D.turns i).length ≤ 1000) :
    Calls Tryz.prog 113 #[.pointer (some ⟨r, 0, none⟩), .int .i64 m] w fun e w' => ∃ v', e = .returned v' ∧ Nl w' v' (rnm R.sn D.turns m) ∧ (∀ q, v'.ownBlock = some q → R.nv.ownBlock = some q ∨ (w.heap.size ≤ q ∧ q < w'.heap.size)) ∧ Below w.heap.size w w' := by
  obtain ⟨c0, c1, c2, c3, c4, c5, c6, c7, c8, c9, c10⟩ := h.cells
  obtain ⟨an, cn, hnv, -, -⟩ := h.nms.shape
  obtain ⟨at', ct, htv⟩ := own_shape h.tur
  have HTR := hid (rf_of_owns h.tur (tncs_one _))
  have H := hid h
  have HT := hid (And.intro ht hl)
  rw [hnv] at c4
  rw [htv] at c5
  have HNV := hid hnv
  have HTV := hid htv
  clear h ht hl hnv htv c0 c1 c2 c3 c6 c7 c8 c9 c10
  go_enter Tryz.func113, Tryz.ntmps113
  go_wp2_with fail
  go_loopw [5, 6] (fun v5 ix wr => ∃ (k n : Nat) (a : Option Addr) (c : Nat), k ≤ m ∧ v5 = .slice a n c ∧ ix = .int .i64 k ∧ Hid (Nl wr (.slice a n c) (rnm R.sn D.turns k) ∧ (∀ q, (Value.slice a n c).ownBlock = some q → R.nv.ownBlock = some q ∨ (w.heap.size ≤ q ∧ q < wr.heap.size)) ∧ Below w.heap.size w wr)) (fun _ ix _ => m - (intOf ix).toNat)
  case atStart => exact ⟨0, _, an, cn, Nat.zero_le _, rfl, rfl, hid ⟨by have := H.out.nms; rw [HNV.out] at this; exact this, fun q e => .inl (by rw [HNV.out]; exact e), Below.refl _ _⟩⟩
  case round =>
    obtain ⟨k, n, a, c, hk, rfl, rfl, HR⟩ := hrel
    have hbk := HR.out.2.2
    have c4' := (hbk.cell (World.block_lt_of_cell? _ _ c4)).trans c4
    have c5' := (hbk.cell (World.block_lt_of_cell? _ _ c5)).trans c5
    by_cases hlt : k < m
    · have i1 : (k : Int) < (m : Int) := by omega
      have hlt2 : k < D.turns.length := by omega
      have hrf := HTR.out
      rw [HTV.out] at hrf
      obtain ⟨b, ofs, cap', e, -, -, hcell⟩ := Rf.elem (f := tncs) tncs_len (by omega) hrf k hlt2
      injection e with e1 e2 e3
      subst e1 e3
      clear e2 hrf
      have htd := HT.out.1 k D.turns[k] hlt (List.getElem?_eq_getElem hlt2)
      have hsc := rnm_succ R.sn D.turns k D.turns[k] (List.getElem?_eq_getElem hlt2)
      obtain ⟨x, hx⟩ : ∃ x, x = D.turns[k] := ⟨_, rfl⟩
      rw [← hx] at hcell htd hsc
      obtain ⟨z0, z1, z2, z3, hz⟩ : ∃ z0 z1 z2 z3, tncs x = [z0, z1, z2, z3] := by
        have := tncs_len x
        match hq : tncs x, this with
        | [z0, z1, z2, z3], _ => exact ⟨z0, z1, z2, z3, rfl⟩
      rw [hz] at hcell
      have hcq := fun c u hu => ((hbk.cell (World.block_lt_of_cell? _ _ (hcell c u hu))).trans (hcell c u hu))
      have y0 := (show wr.cell? ⟨b, ofs + k * 4, none⟩ = some z0 from hcq 0 _ rfl)
      have y1 := (show wr.cell? ⟨b, ofs + k * 4 + 1, none⟩ = some z1 from hcq 1 _ rfl)
      have y2 := (show wr.cell? ⟨b, ofs + k * 4 + 2, none⟩ = some z2 from hcq 2 _ rfl)
      have y3 := (show wr.cell? ⟨b, ofs + k * 4 + 3, none⟩ = some z3 from hcq 3 _ rfl)
      have i2 : (k : Int) < (D.turns.length : Int) := by omega
      have HTU := hid (turned_any (.slice a n c) _ x wr HR.out.1 (by have := HT.out.2 k (by omega); omega) htd z0 z1 z2 z3 hz)
      have HSC := hid hsc
      clear hcell hcq htd hsc hz hx hbk
      go_wp2_with (
        go_at_call 129
        refine HTU.out.mono ?_
        rintro e w1 ⟨v1, rfl, ho1, hb1⟩
        obtain ⟨a1, c1, rfl⟩ := own_shape ho1
        have H1 := hid (show Nl w1 (.slice a1 (rdo (rnm R.sn D.turns k) x).length c1) (rnm R.sn D.turns (k + 1)) ∧ (∀ q, (Value.slice a1 (rdo (rnm R.sn D.turns k) x).length c1).ownBlock = some q → R.nv.ownBlock = some q ∨ (w.heap.size ≤ q ∧ q < w1.heap.size)) ∧ Below w.heap.size w w1 from ⟨by rw [HSC.out]; exact ho1.nl, fun q e => .inr ⟨Nat.le_trans HR.out.2.2.size (ho1.lt q e).1, (ho1.lt q e).2⟩, bel_on HR.out.2.2 hb1⟩)
        clear ho1 hb1)
      clear y0 y1 y2 y3 c4' c5'
      go_roundw
      case rel => first | exact ⟨k + 1, _, a1, c1, by omega, rfl, by go_num, H1⟩ | ((repeat apply Exists.intro); exact ⟨⟨k + 1, _, a1, c1, by omega, rfl, by go_num, H1⟩, rfl⟩)
      case measure => simp [intOf]; omega
    · obtain rfl : m = k := by omega
      go_wp2
      go_ret
      exact ⟨_, rfl, HR.out.1, HR.out.2.1, HR.out.2.2⟩

end Go.Proofs.YtlmompdfombgeaaGreat

namespace Go.Proofs.YtlmompdfombgeaaGreat
open Go.RowKit Go.MapKept

section
variable {w : World} {r : Nat} {R : Rt} {D : Dq} {n : Nat}

set_option maxRecDepth 100000 in
set_option maxHeartbeats 1600000 in
theorem now_r (h : RdT w r R D) (hW : WD n D) (hn : n ≤ 100000) (hT : TOK D) :
    Calls Tryz.prog 100 #[.pointer (some ⟨r, 0, none⟩)] w fun e w' => ∃ v', e = .returned v' ∧ Nl w' v' (rnm R.sn D.turns D.turns.length) ∧ (∀ q, v'.ownBlock = some q → R.nv.ownBlock = some q ∨ (w.heap.size ≤ q ∧ q < w'.heap.size)) ∧ Below w.heap.size w w' := by
  have htl := hW.tur
  obtain ⟨c0, c1, c2, c3, c4, c5, c6, c7, c8, c9, c10⟩ := h.cells
  obtain ⟨at', ct, htv⟩ := own_shape h.tur
  rw [htv] at c5
  have HN := hid (names_any h D.turns.length (Nat.le_refl _) (by omega) (fun i x _ hx => h.tdo hW hT i x hx) (fun i _ => by have := h.nlen hW i; omega))
  clear h htv c0 c1 c2 c3 c4 c6 c7 c8 c9 c10
  go_enter Tryz.func100, Tryz.ntmps100
  go_wp2_with (
    go_at_call 113
    refine HN.out.mono ?_
    rintro e w1 ⟨v1, rfl, h1⟩
    have H1 := hid h1
    clear h1)
  go_ret
  exact ⟨_, rfl, H1.out⟩

theorem ff_at : ∀ {l : List Fi} {k : Nat} {x : Fi} {m : Int}, l[k]? = some x → x.no = m → (∀ i g, i < k → l[i]? = some g → g.no ≠ m) → ff m l = some x
  | [], k, x, m, h, _, _ => by simp at h
  | y :: l, 0, x, m, h, hm, _ => by
    simp at h
    subst h
    unfold ff
    rw [if_pos hm]
  | y :: l, k + 1, x, m, h, hm, hn => by
    have h0 := hn 0 y (by omega) rfl
    unfold ff
    rw [if_neg h0]
    exact ff_at (k := k) (by simpa using h) hm (fun i g hi hg => hn (i + 1) g (by omega) (by simpa using hg))

/-- The list of files as cells. -/
theorem RdT.fat (h : RdT w r R D) : Rf w 3 R.lv D.files.length (D.files.flatMap (rfcs R)) := rf_of_owns h.lis (by
  intro u hu
  obtain ⟨f, hf, hx⟩ := List.mem_flatMap.1 hu
  simp [rfcs] at hx
  rcases hx with rfl | rfl | rfl
  · rfl
  · obtain ⟨a, c, e, _⟩ := (h.saf f hf).1
    rw [e]; rfl
  · obtain ⟨a, c, e⟩ := own_shape (h.pen f hf)
    rw [e]; rfl)

set_option maxRecDepth 100000 in
set_option maxHeartbeats 1600000 in
theorem at_r (h : RdT w r R D) (hl : D.files.length ≤ 1000) (m : Int) (f : Fi) (hf : ff m D.files = some f) :
    Calls Tryz.prog 126 #[.pointer (some ⟨r, 0, none⟩), .int .i64 m] w fun e w' => ∃ i : Nat, e = .returned (.int .i64 i) ∧ D.files[i]? = some f ∧ w' = w := by
  obtain ⟨c0, c1, c2, c3, c4, c5, c6, c7, c8, c9, c10⟩ := h.cells
  obtain ⟨al, cl, hlv⟩ := own_shape h.lis
  have HF := hid h.fat
  have HQ := hid hf
  rw [hlv] at c3
  have HL := hid hlv
  clear h hlv hf c0 c1 c2 c4 c5 c6 c7 c8 c9 c10
  go_enter Tryz.func126, Tryz.ntmps126
  go_wp2_with fail
  go_loop [5] (fun ix => ∃ (k : Nat), k ≤ D.files.length ∧ ix = .int .i64 k ∧ Hid (∀ i g, i < k → D.files[i]? = some g → g.no ≠ m)) (fun ix => D.files.length - (intOf ix).toNat)
  case atStart => exact ⟨0, Nat.zero_le _, rfl, hid (fun i g hi => by omega)⟩
  case round =>
    obtain ⟨k, hk, rfl, HR⟩ := hrel
    by_cases hlt : k < D.files.length
    · have i1 : (k : Int) < (D.files.length : Int) := by omega
      have hrf := HF.out
      rw [HL.out] at hrf
      obtain ⟨b, ofs, cap', e, -, -, hcell⟩ := Rf.elem (f := rfcs R) (fun _ => rfl) (by omega) hrf k hlt
      injection e with e1 e2 e3
      subst e1 e3
      clear e2 hrf
      have hg := List.getElem?_eq_getElem hlt
      obtain ⟨x, hx⟩ : ∃ x, x = D.files[k] := ⟨_, rfl⟩
      rw [← hx] at hcell hg
      have y0 := (show w.cell? ⟨b, ofs + k * 3, none⟩ = some (.int .i64 x.no) from hcell 0 _ rfl)
      have HG := hid hg
      clear hcell hg hx
      by_cases hm : x.no = m
      · have hfx : x = f := by
          have h1 := HQ.out
          rw [ff_at HG.out hm HR.out] at h1
          exact Option.some.inj h1
        have HX := hid hfx
        clear hfx
        subst hm
        go_wp2
        go_ret
        exact ⟨k, rfl, HX.out ▸ HG.out, rfl⟩
      · have HN := hid (show ∀ i g, i < k + 1 → D.files[i]? = some g → g.no ≠ m from fun i g hi hg2 => by
          by_cases e : i = k
          · subst e
            rw [HG.out] at hg2
            injection hg2 with hg2
            subst hg2
            exact hm
          · exact HR.out i g (by omega) hg2)
        go_wp2
        clear y0
        go_round
        case rel => exact ⟨k + 1, by omega, by go_num, HN⟩
        case measure => simp [intOf]; omega
    · exfalso
      obtain ⟨h1, h2⟩ := ff_mem HQ.out
      obtain ⟨i, hi⟩ := List.mem_iff_getElem?.1 h1
      have hil := (List.getElem?_eq_some_iff.1 hi).1
      exact HR.out i f (by omega) hi h2

end

end Go.Proofs.YtlmompdfombgeaaGreat

namespace Go.Proofs.YtlmompdfombgeaaGreat
open Go.RowKit Go.MapKept

section
variable {w : World} {r : Nat} {R : Rt} {D : Dq} {n : Nat}

theorem RdT.free (h : RdT w r R D) : ∀ o, w.frozen? ⟨r, o, none⟩ = false := fun _ => free_of_block h.disk

theorem nam_look (hW : WD n D) {nm : ByteArray} {m : Int} (h : lo nm D.names = some m) : ∃ f, ff m D.files = some f ∧ D.look nm = some f ∧ 1 ≤ m := by
  obtain ⟨f, hf⟩ := ff_some (hW.nam.l (nm, m) (lo_mem h))
  have h1 := ff_mem hf
  exact ⟨f, hf, by unfold Dq.look; rw [h]; exact hf, by have := (hW.rng f h1.1).1; rw [h1.2] at this; exact this⟩

set_option maxRecDepth 100000 in
set_option maxHeartbeats 3200000 in
theorem known_r (h : RdT w r R D) (hW : WD n D) (hn : n ≤ 100000) (hT : TOK D) (nm : ByteArray) (hs : nm.size ≤ maxLen) :
    Calls Tryz.prog 103 #[.pointer (some ⟨r, 0, none⟩), .string nm] w fun e w' => (∃ i : Nat, e = .returned (.tuple #[.int .i64 i, .int .i64 (pre1 D nm false 0)]) ∧ (pre1 D nm false 0 = 0 → ∃ f, D.look nm = some f ∧ D.files[i]? = some f)) ∧ Below w.heap.size w w' := by
  obtain ⟨c0, c1, c2, c3, c4, c5, c6, c7, c8, c9, c10⟩ := h.cells
  clear c0 c1 c2 c3 c4 c5 c6 c7 c8 c9
  cases ho : D.off
  · rw [ho] at c10
    cases hk : nmOK nm
    · have hp : pre1 D nm false 0 = 5 := by simp only [pre1, ho, hk]; simp
      rw [hp]
      have HI := hid (fun W => hk ▸ risName_any nm W hs)
      clear hk hp h
      go_enter Tryz.func103, Tryz.ntmps103
      go_wp2_with (
        go_at_call 108
        refine (HI.out _).mono ?_
        rintro e w1 ⟨rfl, e1⟩
        rw [e1]
        clear e1 w1)
      go_ret2
      exact ⟨⟨0, rfl, fun e => by cases e⟩, Below.refl _ _⟩
    · have HI := hid (fun W => hk ▸ risName_any nm W hs)
      have hlo := (h.ns.now (D := D)).lo hW.nam.k nm
      have HN := hid (now_r h hW hn hT)
      have hnl : (rnm R.sn D.turns D.turns.length).length ≤ 512 := h.nlen hW _
      have H := hid h
      cases hm : lo nm D.names with
      | none =>
        have hp : pre1 D nm false 0 = 6 := by simp only [pre1, ho, hk]; simp [Dq.look, hm]
        rw [hp]
        have hof := fun (W : World) (v : Value) (hW' : Nl W v (rnm R.sn D.turns D.turns.length)) => of_any v _ nm W hW' (by omega)
        rw [hlo, hm] at hof
        have HOF := hid hof
        clear hk hp h hm hlo hof
        go_enter Tryz.func103, Tryz.ntmps103
        go_wp2_with (first
          | (go_at_call 108
             refine (HI.out _).mono ?_
             rintro e w1 ⟨rfl, e1⟩
             rw [e1]
             clear e1 w1)
          | (go_at_call 100
             refine HN.out.mono ?_
             rintro e w2 ⟨v2, rfl, hl2, -, hb2⟩
             have H2 := hid (And.intro hl2 hb2)
             clear hl2 hb2)
          | (go_at_call 127
             refine (HOF.out _ _ H2.out.1).mono ?_
             rintro e w3 ⟨rfl, e3⟩
             rw [e3]
             clear e3 w3))
        go_ret2
        exact ⟨⟨0, rfl, fun e => by cases e⟩, H2.out.2⟩
      | some m =>
        obtain ⟨f, hf, hlk, hm1⟩ := nam_look hW hm
        have hp : pre1 D nm false 0 = 0 := by simp only [pre1, ho, hk, hlk]; simp
        rw [hp]
        have hof := fun (W : World) (v : Value) (hW' : Nl W v (rnm R.sn D.turns D.turns.length)) => of_any v _ nm W hW' (by omega)
        rw [hlo, hm] at hof
        have HOF := hid hof
        have HLK := hid hlk
        have hfl : D.files.length ≤ 1000 := by have h1 := hW.cnt; have h2 := hW.lim; omega
        have HA := hid (fun (W : World) (hb : Below w.heap.size w W) => at_r (h.below hb) hfl m f hf)
        have hm0 : (m == 0) = false := by simp; omega
        clear hk hp h hm hlo hof hlk hf
        go_enter Tryz.func103, Tryz.ntmps103
        go_wp2_with (first
          | (go_at_call 108
             refine (HI.out _).mono ?_
             rintro e w1 ⟨rfl, e1⟩
             rw [e1]
             clear e1 w1)
          | (go_at_call 100
             refine HN.out.mono ?_
             rintro e w2 ⟨v2, rfl, hl2, -, hb2⟩
             have H2 := hid (And.intro hl2 hb2)
             clear hl2 hb2)
          | (go_at_call 127
             refine (HOF.out _ _ H2.out.1).mono ?_
             rintro e w3 ⟨rfl, e3⟩
             rw [e3]
             clear e3 w3)
          | (go_at_call 126
             refine (HA.out _ H2.out.2).mono ?_
             rintro e w4 ⟨i, rfl, hi, e4⟩
             rw [e4]
             have H4 := hid hi
             clear e4 w4 hi))
        go_ret2
        exact ⟨⟨i, rfl, fun _ => ⟨f, HLK.out, H4.out⟩⟩, H2.out.2⟩
  · rw [ho] at c10
    have hp : pre1 D nm false 0 = 11 := by simp [pre1, ho]
    rw [hp]
    clear h hp
    go_enter Tryz.func103, Tryz.ntmps103
    go_wp2
    go_ret2
    exact ⟨⟨0, rfl, fun e => by cases e⟩, Below.refl _ _⟩

set_option maxRecDepth 100000 in
set_option maxHeartbeats 1600000 in
theorem fails_r (h : RdT w r R D) (ho : D.off = false) (q : Int) (hq : 0 ≤ q ∧ q ≤ 3) : Calls Tryz.prog 109 #[.pointer (some ⟨r, 0, none⟩), .int .i64 q] w fun x w' => x = .returned (.int .i64 (fe q)) ∧ RdT w' r R { D with off := decide (q = 1) } ∧ Kept (fun k => k = r) w w' := by
  obtain ⟨c0, c1, c2, c3, c4, c5, c6, c7, c8, c9, c10⟩ := h.cells
  have hfz := h.free
  have H := hid h
  have HO := hid ho
  clear c0 c1 c2 c3 c4 c5 c6 c7 c8 c9
  have HE := hid (show D.off = false → RdT w r R { D with off := false } from fun e => by have h1 := H.out; exact e ▸ h1)
  have hcase : q = 0 ∨ q = 1 ∨ q = 2 ∨ q = 3 := by omega
  clear hq h ho
  rcases hcase with rfl | rfl | rfl | rfl
  · go_enter Tryz.func109, Tryz.ntmps109
    go_wp2
    go_ret
    exact ⟨rfl, HE.out HO.out, Kept.refl _ _⟩
  · go_enter Tryz.func109, Tryz.ntmps109
    go_wp2
    go_ret
    have hk : Kept (fun k => k = r) w (w.setCell ⟨r, 10, none⟩ (.bool true)) := (Kept.refl (fun k => k = r) w).setCell (p := ⟨r, 10, none⟩) (fun _ => rfl) _
    exact ⟨rfl, H.out.head hk (fun k e e2 => by subst e2; rcases e with e | e; exact H.out.r1 e; exact H.out.r2 e) (set_block (i := 10) H.out.disk _) rfl rfl rfl rfl rfl, hk⟩
  · go_enter Tryz.func109, Tryz.ntmps109
    go_wp2
    go_ret
    exact ⟨rfl, HE.out HO.out, Kept.refl _ _⟩
  · go_enter Tryz.func109, Tryz.ntmps109
    go_wp2
    go_ret
    exact ⟨rfl, HE.out HO.out, Kept.refl _ _⟩

theorem RdT.only (h : RdT w r R D) : ∀ k, R.ro k ∨ R.wo k → ¬ k = r := fun k e e2 => by subst e2; rcases e with e | e; exact h.r1 e; exact h.r2 e

set_option maxRecDepth 100000 in
set_option maxHeartbeats 1600000 in
theorem stroke_r (h : RdT w r R D) (hW : WD n D) (hn : n ≤ 100000) (hl : D.fs.length ≤ 300) (ho : D.off = false) : Calls Tryz.prog 104 #[.pointer (some ⟨r, 0, none⟩)] w fun x w' => x = .returned (.int .i64 (fe (fo D.fs (D.st + 1)))) ∧ RdT w' r R (cntS D) ∧ Kept (fun k => k = r) w w' := by
  have hst := hW.st
  obtain ⟨c0, c1, c2, c3, c4, c5, c6, c7, c8, c9, c10⟩ := h.cells
  have hfz := h.free
  have hr := fo_range D.fs (D.st + 1)
  have hk2 : Kept (fun k => k = r) w (w.setCell ⟨r, 8, none⟩ (.int .i64 (D.st + 1))) := (Kept.refl (fun k => k = r) w).setCell (p := ⟨r, 8, none⟩) (fun _ => rfl) _
  have h2 : RdT (w.setCell ⟨r, 8, none⟩ (.int .i64 (D.st + 1))) r R { D with st := D.st + 1 } := h.head hk2 h.only (set_block (i := 8) h.disk _) rfl rfl rfl rfl rfl
  obtain ⟨ao, cp, hsv, hc1, hc2⟩ := h.fs.shape
  rw [hsv] at c6
  have HX := hid (And.intro h2 (And.intro hk2 hr))
  have hcall : Calls Tryz.prog 110 #[.slice ao D.fs.length cp, .int .i64 (D.st + 1)] (w.setCell ⟨r, 8, none⟩ (.int .i64 (D.st + 1))).drew fun x w1 => x = .returned (.int .i64 (fo D.fs (D.st + 1))) ∧ RdT w1 r R { D with st := D.st + 1 } ∧ Kept (fun k => k = r) w w1 := by
    have hbd : Below (w.setCell ⟨r, 8, none⟩ (.int .i64 (D.st + 1))).heap.size (w.setCell ⟨r, 8, none⟩ (.int .i64 (D.st + 1))) (w.setCell ⟨r, 8, none⟩ (.int .i64 (D.st + 1))).drew := ⟨rfl, rfl, rfl, Nat.le_refl _, fun _ _ => rfl⟩
    have h3 := h2.below hbd
    refine (fault_any (.slice ao D.fs.length cp) D.fs (D.st + 1) _ (hsv ▸ h3.fs) (by omega)).mono ?_
    rintro e w1 ⟨rfl, nn, rfl⟩
    have hb4 := below_drewN (Below.refl (w.setCell ⟨r, 8, none⟩ (.int .i64 (D.st + 1))).drew.heap.size (w.setCell ⟨r, 8, none⟩ (.int .i64 (D.st + 1))).drew) nn
    exact ⟨rfl, h3.below hb4, ⟨hk2.os, hk2.tape, hk2.output, hk2.size, hk2.block⟩⟩
  have HF := hid hcall
  have HO := hid ho
  clear h h2 hk2 hr hcall hsv c0 c1 c2 c3 c4 c5 c7 c9 c10 ho
  go_enter Tryz.func104, Tryz.ntmps104
  go_wp2_with fail
  go_region_with (
    first
    | (go_at_call 110
       (
       refine HF.out.mono ?_
       rintro e w1 ⟨rfl, hd⟩
       have HD := hid hd
       clear hd))
    | (go_at_call 109
       refine (fails_r HD.out.1 HO.out _ HX.out.2.2).mono ?_
       rintro e w2 ⟨rfl, hb3, hk3⟩
       have H3 := hid (And.intro hb3 hk3)
       clear hb3 hk3))
  all_goals
    go_wp2
    go_ret
    exact ⟨rfl, H3.out.1, HD.out.2.trans H3.out.2 (fun _ _ e => e)⟩

end

end Go.Proofs.YtlmompdfombgeaaGreat
