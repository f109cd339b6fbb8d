import Derived.Test.YthjggbcppgbdoaaK27
namespace Go.Proofs.Ythjggbcppgbdoaa
open Go.RowKit

/-- What is held of places. -/
def hdv (V : List Pl) : List (ByteArray × Int) := (V.filter (fun e => e.2.has (!e.2.w))).map (fun e => (e.1, e.2.copy (!e.2.w)))

theorem hdv_app (V1 V2 : List Pl) : hdv (V1 ++ V2) = hdv V1 ++ hdv V2 := by simp [hdv]
theorem hdv_cons (e : Pl) (V : List Pl) : hdv (e :: V) = (if e.2.has (!e.2.w) = true then [(e.1, e.2.copy (!e.2.w))] else []) ++ hdv V := by
  unfold hdv
  rw [List.filter_cons]
  split <;> simp

theorem lay_held (s : Sd) (v : Int) (q : Bool) : (s.lay v q).has (!(s.lay v q).w) = s.has (!s.w) ∧ (s.lay v q).copy (!(s.lay v q).w) = s.copy (!s.w) := by
  obtain ⟨c0, c1, h0, h1, r, w⟩ := s
  cases w <;> exact ⟨rfl, rfl⟩

theorem hdv_put {key : ByteArray} {v : Int} {V : List Pl} (h : Srt V) : hdv (rputL key v V) = hdv V := by
  rcases about key h with ⟨V1, V2, s, rfl, h1, h2⟩ | ⟨V1, V2, rfl, h1, h2⟩
  · rw [put_has h1 h2, hdv_app, hdv_app, hdv_cons, hdv_cons]
    simp only [(lay_held s v true).1, (lay_held s v true).2]
  · rw [(put_new h1 h2).1, hdv_app, hdv_app, hdv_cons]
    have : (⟨0, v, false, true, true, true⟩ : Sd).has false = false := rfl
    simp [this]

theorem hdv_del {key : ByteArray} {V : List Pl} (h : Srt V) : hdv (rdelL key true V) = hdv V := by
  rcases about key h with ⟨V1, V2, s, rfl, h1, h2⟩ | ⟨V1, V2, rfl, h1, h2⟩
  · cases hh : s.has s.r
    · rw [del_nil h1 h2 hh]
    · rw [del_has h1 h2 hh, if_pos rfl, hdv_app, hdv_app, hdv_cons, hdv_cons]
      simp only [(lay_held s 0 false).1, (lay_held s 0 false).2]
  · rw [del_not (put_new (k := 0) h1 h2).2]

theorem hdv_wr {x : Sp} {V : List Pl} (h : Srt V) : hdv (wrL x true V) = hdv V := by
  unfold wrL
  split
  · exact hdv_del h
  split
  · exact hdv_put h
  · rfl

theorem mk_held (s : Sd) : s.mk'.has (!s.mk'.w) = s.has s.r ∧ s.mk'.copy (!s.mk'.w) = s.copy s.r := by
  obtain ⟨c0, c1, h0, h1, r, w⟩ := s
  cases r <;> exact ⟨rfl, rfl⟩

theorem hdv_mark (V : List Pl) : hdv (V.map mkE) = rd V := by
  unfold hdv rd
  rw [List.filter_map, List.map_map]
  have e1 : ((fun e : Pl => e.2.has (!e.2.w)) ∘ mkE) = keepP := by
    funext e
    exact (mk_held e.2).1
  have e2 : ((fun e : Pl => (e.1, e.2.copy (!e.2.w))) ∘ mkE) = fun e => (e.1, e.2.copy e.2.r) := by
    funext e
    exact Prod.ext rfl (mk_held e.2).2
  rw [e1, e2]

theorem snap_hdv (above : ByteArray) (V : List Pl) : kx true (rl true (bhd above) ⟨#[]⟩ V) = (hdv V).filter (fun e => kl above e.1) := by
  unfold kx rl hdv
  rw [fit_held, List.filter_map, List.filter_filter]
  congr 1

theorem range_all (V : List Pl) : kx false (rl false ⟨#[]⟩ ⟨#[]⟩ V) = rd V := by
  rw [range_rd]
  refine List.filter_eq_self.2 (fun e _ => ?_)
  have : kl e.1 ⟨#[]⟩ = false := by
    cases h : kl e.1 ⟨#[]⟩
    · rfl
    · unfold kl at h
      have e0 : (⟨#[]⟩ : ByteArray).toList = [] := by simp [Lib.toList_data]
      rw [e0] at h
      cases e.1.toList <;> simp [Op.bytesLess] at h
  rw [this]
  simp

theorem kl_nil (a : ByteArray) : kl a ⟨#[]⟩ = false := by
  cases h : kl a ⟨#[]⟩
  · rfl
  · unfold kl at h
    have e0 : (⟨#[]⟩ : ByteArray).toList = [] := by simp [Lib.toList_data]
    rw [e0] at h
    cases a.toList <;> simp [Op.bytesLess] at h

/-- Behind Delete of the empty key all that is read is above it. -/
theorem above_all {m : Bool} {V : List Pl} (h : Srt V) : ∀ e ∈ rd (rdelL ⟨#[]⟩ m V), kl ⟨#[]⟩ e.1 = true := by
  intro e he
  rw [rd_del h] at he
  rcases List.mem_append.1 he with h1 | h1
  · have := (List.mem_filter.1 h1).2
    rw [kl_nil] at this
    cases this
  · exact (List.mem_filter.1 h1).2

theorem rd_sorted {V : List Pl} (h : Srt V) : (rd V).Pairwise (fun a b => kl a.1 b.1 = true) := by
  unfold rd
  rw [List.pairwise_map]
  exact h.filter _

/-- Rows cut off in front. -/
theorem rf_cut {w : World} {b off n cap : Nat} {cs : List Value} (h : Rf w 1 (.slice (some ⟨b, off, none⟩) n cap) n cs) (i : Nat) (hi : i < n) : Rf w 1 (.slice (some ⟨b, off + i, none⟩) (n - i) (cap - i)) (n - i) (cs.drop i) := by
  obtain ⟨b2, off2, cap2, e, q1, q2, q3⟩ := h.lits (by omega) (by omega)
  injection e with e1 _ e3
  injection e1 with e1
  injection e1 with e4 e5 _
  subst e4 e5 e3
  refine ⟨?_, fun u hu => h.2.1 u (List.mem_of_mem_drop hu), .inr ⟨_, _, rfl, by omega, by omega, fun j u hu => ?_⟩⟩
  · have := h.1
    simp
    omega
  · rw [add_lit]
    have := q3 (i + j) u (by rw [List.getElem?_drop] at hu; exact hu)
    rw [← Nat.add_assoc] at this
    exact this

theorem drop_filter {p : ByteArray × Int → Bool} : ∀ {T : List (ByteArray × Int)} (i : Nat), (∀ j (h : j < T.length), j < i → p T[j] = false) → (∀ j (h : j < T.length), i ≤ j → p T[j] = true) → T.filter p = T.drop i
  | [], i, _, _ => by simp
  | a :: T, 0, _, h2 => by
    rw [List.drop_zero]
    refine List.filter_eq_self.2 (fun x hx => ?_)
    obtain ⟨j, hj, rfl⟩ := List.getElem_of_mem hx
    exact h2 j hj (Nat.zero_le _)
  | a :: T, i + 1, h1, h2 => by
    rw [List.drop_succ_cons, List.filter_cons, show p a = false from h1 0 (by simp) (by omega)]
    simp only [Bool.false_eq_true, if_false]
    exact drop_filter i (fun j hj hji => h1 (j + 1) (by simp; omega) (by omega)) (fun j hj hji => h2 (j + 1) (by simp; omega) (by omega))

/-- What behind answers. -/
def BeP (w : World) (T : List (ByteArray × Int)) : Ending → World → Prop := fun x w' => ∃ ka va, x = .returned (.tuple #[ka, va]) ∧ Rf w' 1 ka T.length (T.map (fun e => .string e.1)) ∧ Rf w' 1 va T.length (T.map (fun e => .int .i64 e.2)) ∧ Below w.heap.size w w'

set_option maxRecDepth 100000 in
set_option maxHeartbeats 4000000 in
theorem behind_rows (T : List (ByteArray × Int)) (ka va : Value) (above : ByteArray) (w : World) (h1 : Rf w 1 ka T.length (T.map (fun e => .string e.1))) (h2 : Rf w 1 va T.length (T.map (fun e => .int .i64 e.2))) (hl : T.length ≤ 1000000) (hs : T.Pairwise (fun a b => kl a.1 b.1 = true)) :
    Calls Try.prog 31 #[ka, va, .string above] w (BeP w (T.filter (fun e => kl above e.1))) := by
  obtain ⟨a1, c1, e1, -, -⟩ := h1.shape
  obtain ⟨a2, c2, e2, -, -⟩ := h2.shape
  have H1 := hid h1
  have H2 := hid h2
  have FN := hid (show (∀ j (h : j < T.length), kl above T[j].1 = false) → ∀ w', Below w.heap.size w w' → BeP w (T.filter (fun e => kl above e.1)) (.returned (.tuple #[.slice none 0 0, .slice none 0 0])) w' from fun hn w' hb => by
    have : T.filter (fun e => kl above e.1) = [] := List.filter_eq_nil_iff.2 (fun x hx => by
      obtain ⟨j, hj, rfl⟩ := List.getElem_of_mem hx
      rw [hn j hj]; simp)
    rw [this]
    exact ⟨_, _, rfl, rf_nil _ _, rf_nil _ _, hb⟩)
  have FS := hid (show ∀ i (hi : i < T.length), (∀ j (h : j < T.length), j < i → kl above T[j].1 = false) → kl above T[i].1 = true → ∀ b1 o1 q1 b2 o2 q2 w', Rf w 1 (.slice (some ⟨b1, o1, none⟩) T.length q1) T.length (T.map (fun e => .string e.1)) → Rf w 1 (.slice (some ⟨b2, o2, none⟩) T.length q2) T.length (T.map (fun e => .int .i64 e.2)) → Below w.heap.size w w' → BeP w (T.filter (fun e => kl above e.1)) (.returned (.tuple #[.slice (some ⟨b1, o1 + i, none⟩) (T.length - i) (q1 - i), .slice (some ⟨b2, o2 + i, none⟩) (T.length - i) (q2 - i)])) w' from fun i hi hn hy b1 o1 q1 b2 o2 q2 w' r1 r2 hb => by
    have : T.filter (fun e => kl above e.1) = T.drop i := drop_filter i hn (fun j hj hij => by
      rcases Nat.lt_or_eq_of_le hij with h | h
      · exact kl_trans hy (List.pairwise_iff_getElem.1 hs i j hi hj h)
      · subst h; exact hy)
    rw [this]
    refine ⟨_, _, rfl, ?_, ?_, hb⟩
    · have := (rf_cut r1 i hi).below hb
      rw [List.map_drop, List.length_drop]
      exact this
    · have := (rf_cut r2 i hi).below hb
      rw [List.map_drop, List.length_drop]
      exact this)
  generalize hP : BeP w (T.filter (fun e => kl above e.1)) = PP at FN FS ⊢
  subst e1 e2
  clear hP h1 h2 hs
  go_enter Try.func31, Try.ntmps31
  go_wp2
  go_loopw [8] (fun i wr => ∃ k : Nat, i = .int .i64 k ∧ k ≤ T.length ∧ Hid (∀ j (h : j < T.length), j < k → kl above T[j].1 = false) ∧ Hid (Below w.heap.size w wr)) (fun i _ => T.length - (intOf i).toNat)
  case atStart => exact ⟨0, rfl, Nat.zero_le _, hid (fun j hj h => by omega), hid (Below.refl _ _)⟩
  case round =>
    obtain ⟨k, rfl, hk, hno, hb⟩ := hrel
    by_cases h1 : k < T.length
    · have h1k : (k : Int) < T.length := by omega
      obtain ⟨g1, o1, q1, e, a1, a2, z1⟩ := H1.out.lits (by omega) (by omega)
      injection e with e1 _ e3
      subst e1 e3
      obtain ⟨g2, o2, q2, e, a3, a4, z2⟩ := H2.out.lits (by omega) (by omega)
      injection e with e1 _ e3
      subst e1 e3
      have v1 : wr.cell? ⟨g1, o1 + k, none⟩ = some (.string T[k].1) := by
        have := z1 k (.string T[k].1) (by simp [h1])
        exact (hb.out.cell (p := ⟨g1, o1 + k, none⟩) (World.block_lt_of_cell? _ _ this)).trans this
      have hk1 : k + 1 ≤ 1000000 := by omega
      have a1k : (k : Int) ≤ T.length := by omega
      cases hg : kl above T[k].1
      · have NX := hid (show ∀ j (h : j < T.length), j < k + 1 → kl above T[j].1 = false from fun j hj hjk => by
          by_cases hjk2 : j < k
          · exact hno.out j hj hjk2
          · have : j = k := by omega
            subst this
            exact hg)
        generalize T[k].1 = s at v1 hg
        have b1 : (!Op.bytesLess s.toList above.toList && !(s.toList == above.toList)) = false := by rw [gtr_eq]; exact hg
        clear hg z1 z2 hl FN FS H1 H2
        go_wp2_with fail
        go_roundw
        case rel => exact ⟨k + 1, by go_num, by omega, NX, hb⟩
        case measure => simp [intOf]; omega
      · have Y := hid (fun w' hb' => FS.out k h1 hno.out hg g1 o1 c1 g2 o2 c2 w' H1.out H2.out hb')
        generalize T[k].1 = s at v1 hg
        have b1 : (!Op.bytesLess s.toList above.toList && !(s.toList == above.toList)) = true := by rw [gtr_eq]; exact hg
        have i1 : (T.length : Int) ≤ c1 := by omega
        have i2 : (T.length : Int) ≤ c2 := by omega
        clear hg z1 z2 FN FS H1 H2
        go_wp2_with fail
        go_quiet (fail)
        go_wp2
        exact Y.out _ (blw_drewN hb.out)
    · have h1k : (T.length : Int) ≤ k := by omega
      have N2 := hid (FN.out (fun j hj => hno.out j hj (by omega)) wr hb.out)
      clear FN FS H1 H2
      go_wp2_with fail
      exact N2.out

end Go.Proofs.Ythjggbcppgbdoaa

namespace Go.Proofs.Ythjggbcppgbdoaa
open Go.RowKit

/-- A store of the law, with its bounds. -/
structure Hs (w : World) (p : Nat) (V : List Pl) (m : Bool) (N : Nat) (F : Nat → Prop) (W : World) : Prop where
  z : ZV W p V m F
  fl : ∀ j, F j → j < W.heap.size
  o : ∀ j, F j → w.heap.size ≤ j
  bd : Bd N V
  be : Below w.heap.size w W

theorem Hs.below {w : World} {p : Nat} {V : List Pl} {m : Bool} {N : Nat} {F : Nat → Prop} {W W' : World} (h : Hs w p V m N F W) (hb : Below W.heap.size W W') : Hs w p V m N F W' :=
  ⟨h.z.below hb, fun j hj => Nat.lt_of_lt_of_le (h.fl j hj) hb.size, h.o, h.bd, below_on h.be hb⟩
theorem Hs.keptF {w : World} {p : Nat} {V V' : List Pl} {m m' : Bool} {N M : Nat} {F : Nat → Prop} {W W' : World} (h : Hs w p V m N F W) (hk : Kept F W W') (hz : ZV W' p V' m' F) (hb : Bd M V') : Hs w p V' m' M F W' :=
  ⟨hz, fun j hj => Nat.lt_of_lt_of_le (h.fl j hj) hk.size, h.o, hb, h.be.trans (hk.below h.be.size (fun j hj e => by have := h.o j e; omega))⟩
theorem Hs.mono {w : World} {p : Nat} {V : List Pl} {m : Bool} {N M : Nat} {F : Nat → Prop} {W : World} (h : Hs w p V m N F W) (hN : N ≤ M) : Hs w p V m M F W := ⟨h.z, h.fl, h.o, h.bd.mono hN, h.be⟩

theorem hs_write {w : World} {p : Nat} {V : List Pl} {m : Bool} {N : Nat} {F : Nat → Prop} {W : World} {x : Sp} (h : Hs w p V m N F W) (hN : N ≤ 500000) (hk : x.key.size ≤ 50000) :
    Calls Try.prog 28 #[.pointer (some ⟨p, 0, none⟩), x.agg] W fun y w' => y = .returned (.tuple #[]) ∧ (∃ F', Hs w p (wrL x m V) m (N + 1) F' w' ∧ ∀ j, F' j → F j ∨ W.heap.size ≤ j) ∧ Kept F W w' := by
  refine (write_any x p V m F W h.z h.fl (Nat.le_trans h.bd.n hN) (by omega)).mono ?_
  rintro y w' ⟨rfl, F', q1, q2, q3, q4⟩
  refine ⟨rfl, ⟨F', ⟨q1, q3, fun j hj => ?_, wr_bd h.bd hk, h.be.trans (q4.below h.be.size (fun j hj e => by have := h.o j e; omega))⟩, q2⟩, q4⟩
  rcases q2 j hj with e | e
  · exact h.o j e
  · have := h.be.size
    omega

/-- Two rows that are kept, and the block of the rounds' scripts. -/
structure Hr (W : World) (ka va : Value) (T : List (ByteArray × Int)) (rb : Nat) (rows : Array Value) (F : Nat → Prop) : Prop where
  kr : Rf W 1 ka T.length (T.map (fun e => .string e.1))
  vr : Rf W 1 va T.length (T.map (fun e => .int .i64 e.2))
  ro : ∀ j, ka.ownBlock = some j ∨ va.ownBlock = some j → ¬ F j ∧ j < W.heap.size
  rw_ : W.heap[rb]? = some (.cells rows 22 (0, 0))
  nr : ¬ F rb

theorem Hr.kept {W W' : World} {ka va : Value} {T : List (ByteArray × Int)} {rb : Nat} {rows : Array Value} {F F' : Nat → Prop} (h : Hr W ka va T rb rows F) (hk : Kept F W W') (hg : ∀ j, F' j → F j ∨ W.heap.size ≤ j) : Hr W' ka va T rb rows F' := by
  refine ⟨h.kr.kept hk (fun j hj => (h.ro j (.inl hj)).1), h.vr.kept hk (fun j hj => (h.ro j (.inr hj)).1), fun j hj => ⟨fun hf => ?_, Nat.lt_of_lt_of_le (h.ro j hj).2 hk.size⟩, hp_kept h.rw_ hk h.nr, fun hf => ?_⟩
  · rcases hg j hf with e | e
    · exact (h.ro j hj).1 e
    · have := (h.ro j hj).2
      omega
  · rcases hg _ hf with e | e
    · exact h.nr e
    · have := hp_lt h.rw_
      omega
theorem Hr.below {W W' : World} {ka va : Value} {T : List (ByteArray × Int)} {rb : Nat} {rows : Array Value} {F : Nat → Prop} (h : Hr W ka va T rb rows F) (hb : Below W.heap.size W W') : Hr W' ka va T rb rows F :=
  ⟨h.kr.below hb, h.vr.below hb, fun j hj => ⟨(h.ro j hj).1, Nat.lt_of_lt_of_le (h.ro j hj).2 hb.size⟩, hp_below h.rw_ hb (hp_lt h.rw_), h.nr⟩

/-- A store while it is marked. -/
structure Hi (w : World) (p : Nat) (ka va : Value) (T : List (ByteArray × Int)) (rb : Nat) (rows : Array Value) (N : Nat) (V : List Pl) (F : Nat → Prop) (W : World) : Prop where
  hs : Hs w p V true N F W
  hr : Hr W ka va T rb rows F
  hd : hdv V = T
  so : T.Pairwise (fun a b => kl a.1 b.1 = true)
  ab : ∀ e ∈ T, kl ⟨#[]⟩ e.1 = true
  ln : T.length ≤ 602

theorem Hi.below {w : World} {p : Nat} {ka va : Value} {T : List (ByteArray × Int)} {rb : Nat} {rows : Array Value} {N : Nat} {V : List Pl} {F : Nat → Prop} {W W' : World} (h : Hi w p ka va T rb rows N V F W) (hb : Below W.heap.size W W') : Hi w p ka va T rb rows N V F W' := ⟨h.hs.below hb, h.hr.below hb, h.hd, h.so, h.ab, h.ln⟩

theorem Hi.mono {w : World} {p : Nat} {ka va : Value} {T : List (ByteArray × Int)} {rb : Nat} {rows : Array Value} {N M : Nat} {V : List Pl} {F : Nat → Prop} {W : World} (h : Hi w p ka va T rb rows N V F W) (hN : N ≤ M) : Hi w p ka va T rb rows M V F W := ⟨h.hs.mono hN, h.hr, h.hd, h.so, h.ab, h.ln⟩

theorem hi_write {w : World} {p : Nat} {ka va : Value} {T : List (ByteArray × Int)} {rb : Nat} {rows : Array Value} {N : Nat} {V : List Pl} {F : Nat → Prop} {W : World} {x : Sp} (h : Hi w p ka va T rb rows N V F W) (hN : N ≤ 500000) (hk : x.key.size ≤ 50000) :
    Calls Try.prog 28 #[.pointer (some ⟨p, 0, none⟩), x.agg] W fun y w' => y = .returned (.tuple #[]) ∧ ∃ V' F', Hi w p ka va T rb rows (N + 1) V' F' w' := by
  refine (hs_write h.hs hN hk).mono ?_
  rintro y w' ⟨rfl, ⟨F', q1, q2⟩, q3⟩
  exact ⟨rfl, _, F', q1, h.hr.kept q3 q2, (hdv_wr h.hs.z.sorted).trans h.hd, h.so, h.ab, h.ln⟩

/-- The snapshot above a text. -/
theorem hi_snap {w : World} {p : Nat} {ka va : Value} {T : List (ByteArray × Int)} {rb : Nat} {rows : Array Value} {N : Nat} {V : List Pl} {F : Nat → Prop} {W : World} {g1 g2 gp : Nat} {above : ByteArray} (h : Hi w p ka va T rb rows N V F W) (hN : N ≤ 602) (hs : SnB W g1 g2 gp (some ⟨p, 0, none⟩) (bhd above)) (ha : above.size ≤ 281474976710000) :
    Calls Try.prog 29 #[itS g1 g2] W (PaP W (T.filter (fun e => kl above e.1))) := by
  have := pairs_snap h.hs.z h.hs.fl hs (Nat.le_trans h.hs.bd.n hN) (fun e he => by have := h.hs.bd.k e he; omega) ha
  rw [snap_hdv, h.hd] at this
  exact this

theorem filt_all {T : List (ByteArray × Int)} (h : ∀ e ∈ T, kl ⟨#[]⟩ e.1 = true) : T.filter (fun e => kl ⟨#[]⟩ e.1) = T := List.filter_eq_self.2 h

/-- The mark: what was read is held. -/
theorem hs_mark {w : World} {p : Nat} {ka va : Value} {T : List (ByteArray × Int)} {rb : Nat} {rows : Array Value} {N : Nat} {V : List Pl} {F : Nat → Prop} {W : World} (h : Hs w p V false N F W) (hr : Hr W ka va T rb rows F) (ht : T = rd V) (ha : ∀ e ∈ T, kl ⟨#[]⟩ e.1 = true) (hN : N ≤ 602) :
    Calls Try.prog 26 #[.pointer (some ⟨p, 0, none⟩)] W fun y w' => y = .returned (.int .i64 0) ∧ Hi w p ka va T rb rows N (V.map mkE) F w' := by
  refine (vmark p V F W h.z).mono ?_
  rintro y w' ⟨rfl, hz, hk⟩
  refine ⟨rfl, h.keptF hk hz ⟨by simpa using h.bd.n, fun e he => ?_⟩, hr.kept hk (fun j hj => .inl hj), by rw [ht]; exact hdv_mark V, by rw [ht]; exact rd_sorted h.z.sorted, ha, ?_⟩
  · obtain ⟨e', he', rfl⟩ := List.mem_map.1 he
    exact h.bd.k e' he'
  · rw [ht]
    have := h.bd.n
    unfold rd
    rw [List.length_map]
    exact Nat.le_trans (List.length_filter_le _ _) (by omega)

theorem hi_done {w : World} {p : Nat} {ka va : Value} {T : List (ByteArray × Int)} {rb : Nat} {rows : Array Value} {N : Nat} {V : List Pl} {F : Nat → Prop} {W : World} (h : Hi w p ka va T rb rows N V F W) (hN : N ≤ 500000) :
    Calls Try.prog 27 #[.pointer (some ⟨p, 0, none⟩)] W fun y w' => y = .returned (.int .i64 0) ∧ Hs w p (V.filter keepP) false N F w' ∧ w'.heap[rb]? = some (.cells rows 22 (0, 0)) ∧ ¬ F rb := by
  refine (vdone p V F W h.hs.z (Nat.le_trans h.hs.bd.n hN)).mono ?_
  rintro y w' ⟨rfl, hz, hk⟩
  exact ⟨rfl, h.hs.keptF hk hz ⟨Nat.le_trans (List.length_filter_le _ _) h.hs.bd.n, fun e he => h.hs.bd.k e (List.mem_filter.1 he).1⟩, hp_kept h.hr.rw_ hk h.hr.nr, h.hr.nr⟩

end Go.Proofs.Ythjggbcppgbdoaa
