import Derived.Test.YthjggbcppgbdoaaK27
namespace Go.Proofs.Ythjggbcppgbdoaa
open Go.RowKit

/-- What is held of places. -/
def hdv (V : List Pl) : List (ByteArray × Int) := (V.filter (fun e => e.2.has (!e.2.w))).map (fun e => (e.1, e.2.copy (!e.2.w)))

theorem hdv_app (V1 V2 : List Pl) : hdv (V1 ++ V2) = hdv V1 ++ hdv V2 := by simp [hdv]
theorem hdv_cons (e : Pl) (V : List Pl) : hdv (e :: V) = (if e.2.has (!e.2.w) = true then [(e.1, e.2.copy (!e.2.w))] else []) ++ hdv V := by
  unfold hdv
  rw [List.filter_cons]
  split <;> simp

theorem lay_held (s : Sd) (v : Int) (q : Bool) : (s.lay v q).has (!(s.lay v q).w) = s.has (!s.w) ∧ (s.lay v q).copy (!(s.lay v q).w) = s.copy (!s.w) := by
  obtain ⟨c0, c1, h0, h1, r, w⟩ := s
  cases w <;> exact ⟨rfl, rfl⟩

theorem hdv_put {key : ByteArray} {v : Int} {V : List Pl} (h : Srt V) : hdv (rputL key v V) = hdv V := by
  rcases about key h with ⟨V1, V2, s, rfl, h1, h2⟩ | ⟨V1, V2, rfl, h1, h2⟩
  · rw [put_has h1 h2, hdv_app, hdv_app, hdv_cons, hdv_cons]
    simp only [(lay_held s v true).1, (lay_held s v true).2]
  · rw [(put_new h1 h2).1, hdv_app, hdv_app, hdv_cons]
    have : (⟨0, v, false, true, true, true⟩ : Sd).has false = false := rfl
    simp [this]

theorem hdv_del {key : ByteArray} {V : List Pl} (h : Srt V) : hdv (rdelL key true V) = hdv V := by
  rcases about key h with ⟨V1, V2, s, rfl, h1, h2⟩ | ⟨V1, V2, rfl, h1, h2⟩
  · cases hh : s.has s.r
    · rw [del_nil h1 h2 hh]
    · rw [del_has h1 h2 hh, if_pos rfl, hdv_app, hdv_app, hdv_cons, hdv_cons]
      simp only [(lay_held s 0 false).1, (lay_held s 0 false).2]
  · rw [del_not (put_new (k := 0) h1 h2).2]

theorem hdv_wr {x : Sp} {V : List Pl} (h : Srt V) : hdv (wrL x true V) = hdv V := by
  unfold wrL
  split
  · exact hdv_del h
  split
  · exact hdv_put h
  · rfl

theorem mk_held (s : Sd) : s.mk'.has (!s.mk'.w) = s.has s.r ∧ s.mk'.copy (!s.mk'.w) = s.copy s.r := by
  obtain ⟨c0, c1, h0, h1, r, w⟩ := s
  cases r <;> exact ⟨rfl, rfl⟩

theorem hdv_mark (V : List Pl) : hdv (V.map mkE) = rd V := by
  unfold hdv rd
  rw [List.filter_map, List.map_map]
  have e1 : ((fun e : Pl => e.2.has (!e.2.w)) ∘ mkE) = keepP := by
    funext e
    exact (mk_held e.2).1
  have e2 : ((fun e : Pl => (e.1, e.2.copy (!e.2.w))) ∘ mkE) = fun e => (e.1, e.2.copy e.2.r) := by
    funext e
    exact Prod.ext rfl (mk_held e.2).2
  rw [e1, e2]

theorem snap_hdv (above : ByteArray) (V : List Pl) : kx true (rl true (bhd above) ⟨#[]⟩ V) = (hdv V).filter (fun e => kl above e.1) := by
  unfold kx rl hdv
  rw [fit_held, List.filter_map, List.filter_filter]
  congr 1

theorem range_all (V : List Pl) : kx false (rl false ⟨#[]⟩ ⟨#[]⟩ V) = rd V := by
  rw [range_rd]
  refine List.filter_eq_self.2 (fun e _ => ?_)
  have : kl e.1 ⟨#[]⟩ = false := by
    cases h : kl e.1 ⟨#[]⟩
    · rfl
    · unfold kl at h
      have e0 : (⟨#[]⟩ : ByteArray).toList = [] := by simp [Lib.toList_data]
      rw [e0] at h
      cases e.1.toList <;> simp [Op.bytesLess] at h
  rw [this]
  simp

theorem kl_nil (a : ByteArray) : kl a ⟨#[]⟩ = false := by
  cases h : kl a ⟨#[]⟩
  · rfl
  · unfold kl at h
    have e0 : (⟨#[]⟩ : ByteArray).toList = [] := by simp [Lib.toList_data]
    rw [e0] at h
    cases a.toList <;> simp [Op.bytesLess] at h

/-- Behind Delete of the empty key all that is read is above it. -/
theorem above_all {m : Bool} {V : List Pl} (h : Srt V) : ∀ e ∈ rd (rdelL ⟨#[]⟩ m V), kl ⟨#[]⟩ e.1 = true := by
  intro e he
  rw [rd_del h] at he
  rcases List.mem_append.1 he with h1 | h1
  · have := (List.mem_filter.1 h1).2
    rw [kl_nil] at this
    cases this
  · exact (List.mem_filter.1 h1).2

theorem rd_sorted {V : List Pl} (h : Srt V) : (rd V).Pairwise (fun a b => kl a.1 b.1 = true) := by
  unfold rd
  rw [List.pairwise_map]
  exact h.filter _

/-- Rows cut off in front. -/
theorem rf_cut {w : World} {b off n cap : Nat} {cs : List Value} (h : Rf w 1 (.slice (some ⟨b, off, none⟩) n cap) n cs) (i : Nat) (hi : i < n) : Rf w 1 (.slice (some ⟨b, off + i, none⟩) (n - i) (cap - i)) (n - i) (cs.drop i) := by
  obtain ⟨b2, off2, cap2, e, q1, q2, q3⟩ := h.lits (by omega) (by omega)
  injection e with e1 _ e3
  injection e1 with e1
  injection e1 with e4 e5 _
  subst e4 e5 e3
  refine ⟨?_, fun u hu => h.2.1 u (List.mem_of_mem_drop hu), .inr ⟨_, _, rfl, by omega, by omega, fun j u hu => ?_⟩⟩
  · have := h.1
    simp
    omega
  · rw [add_lit]
    have := q3 (i + j) u (by rw [List.getElem?_drop] at hu; exact hu)
    rw [← Nat.add_assoc] at this
    exact this

theorem drop_filter {p : ByteArray × Int → Bool} : ∀ {T : List (ByteArray × Int)} (i : Nat), (∀ j (h : j < T.length), j < i → p T[j] = false) → (∀ j (h : j < T.length), i ≤ j → p T[j] = true) → T.filter p = T.drop i
  | [], i, _, _ => by simp
  | a :: T, 0, _, h2 => by
    rw [List.drop_zero]
    refine List.filter_eq_self.2 (fun x hx => ?_)
    obtain ⟨j, hj, rfl⟩ := List.getElem_of_mem hx
    exact h2 j hj (Nat.zero_le _)
  | a :: T, i + 1, h1, h2 => by
    rw [List.drop_succ_cons, List.filter_cons, show p a = false from h1 0 (by simp) (by omega)]
    simp only [Bool.false_eq_true, if_false]
    exact drop_filter i (fun j hj hji => h1 (j + 1) (by simp; omega) (by omega)) (fun j hj hji => h2 (j + 1) (by simp; omega) (by omega))

/-- What behind answers. -/
def BeP (w : World) (T : List (ByteArray × Int)) : Ending → World → Prop := fun x w' => ∃ ka va, x = .returned (.tuple #[ka, va]) ∧ Rf w' 1 ka T.length (T.map (fun e => .string e.1)) ∧ Rf w' 1 va T.length (T.map (fun e => .int .i64 e.2)) ∧ Below w.heap.size w w'

set_option maxRecDepth 100000 in
set_option maxHeartbeats 4000000 in
theorem behind_rows (T : List (ByteArray × Int)) (ka va : Value) (above : ByteArray) (w : World) (h1 : Rf w 1 ka T.length (T.map (fun e => .string e.1))) (h2 : Rf w 1 va T.length (T.map (fun e => .int .i64 e.2))) (hl : T.length ≤ 1000000) (hs : T.Pairwise (fun a b => kl a.1 b.1 = true)) :
    Calls Try.prog 31 #[ka, va, .string above] w (BeP w (T.filter (fun e => kl above e.1))) := by
  obtain ⟨a1, c1, e1, -, -⟩ := h1.shape
  obtain ⟨a2, c2, e2, -, -⟩ := h2.shape
  have H1 := hid h1
  have H2 := hid h2
  have FN := hid (show (∀ j (h : j < T.length), kl above T[j].1 = false) → ∀ w', Below w.heap.size w w' → BeP w (T.filter (fun e => kl above e.1)) (.returned (.tuple #[.slice none 0 0, .slice none 0 0])) w' from fun hn w' hb => by
    have : T.filter (fun e => kl above e.1) = [] := List.filter_eq_nil_iff.2 (fun x hx => by
      obtain ⟨j, hj, rfl⟩ := List.getElem_of_mem hx
      rw [hn j hj]; simp)
    rw [this]
    exact ⟨_, _, rfl, rf_nil _ _, rf_nil _ _, hb⟩)
  have FS := hid (show ∀ i (hi : i < T.length), (∀ j (h : j < T.length), j < i → kl above T[j].1 = false) → kl above T[i].1 = true → ∀ b1 o1 q1 b2 o2 q2 w', Rf w 1 (.slice (some ⟨b1, o1, none⟩) T.length q1) T.length (T.map (fun e => .string e.1)) → Rf w 1 (.slice (some ⟨b2, o2, none⟩) T.length q2) T.length (T.map (fun e => .int .i64 e.2)) → Below w.heap.size w w' → BeP w (T.filter (fun e => kl above e.1)) (.returned (.tuple #[.slice (some ⟨b1, o1 + i, none⟩) (T.length - i) (q1 - i), .slice (some ⟨b2, o2 + i, none⟩) (T.length - i) (q2 - i)])) w' from fun i hi hn hy b1 o1 q1 b2 o2 q2 w' r1 r2 hb => by
    have : T.filter (fun e => kl above e.1) = T.drop i := drop_filter i hn (fun j hj hij => by
      rcases Nat.lt_or_eq_of_le hij with h | h
      · exact kl_trans hy (List.pairwise_iff_getElem.1 hs i j hi hj h)
      · subst h; exact hy)
    rw [this]
    refine ⟨_, _, rfl, ?_, ?_, hb⟩
    · have := (rf_cut r1 i hi).below hb
      rw [List.map_drop, List.length_drop]
      exact this
    · have := (rf_cut r2 i hi).below hb
      rw [List.map_drop, List.length_drop]
      exact this)
  generalize hP : BeP w (T.filter (fun e => kl above e.1)) = PP at FN FS ⊢
  subst e1 e2
  clear hP h1 h2 hs
  go_enter Try.func31, Try.ntmps31
  go_wp2
  go_loopw [8] (fun i wr => ∃ k : Nat, i = .int .i64 k ∧ k ≤ T.length ∧ Hid (∀ j (h : j < T.length), j < k → kl above T[j].1 = false) ∧ Hid (Below w.heap.size w wr)) (fun i _ => T.length - (intOf i).toNat)
  case atStart => exact ⟨0, rfl, Nat.zero_le _, hid (fun j hj h => by omega), hid (Below.refl _ _)⟩
  case round =>
    obtain ⟨k, rfl, hk, hno, hb⟩ := hrel
    by_cases h1 : k < T.length
    · have h1k : (k : Int) < T.length := by omega
      obtain ⟨g1, o1, q1, e, a1, a2, z1⟩ := H1.out.lits (by omega) (by omega)
      injection e with e1 _ e3
      subst e1 e3
      obtain ⟨g2, o2, q2, e, a3, a4, z2⟩ := H2.out.lits (by omega) (by omega)
      injection e with e1 _ e3
      subst e1 e3
      have v1 : wr.cell? ⟨g1, o1 + k, none⟩ = some (.string T[k].1) := by
        have := z1 k (.string T[k].1) (by simp [h1])
        exact (hb.out.cell (p := ⟨g1, o1 + k, none⟩) (World.block_lt_of_cell? _ _ this)).trans this
      have hk1 : k + 1 ≤ 1000000 := by omega
      have a1k : (k : Int) ≤ T.length := by omega
      cases hg : kl above T[k].1
      · have NX := hid (show ∀ j (h : j < T.length), j < k + 1 → kl above T[j].1 = false from fun j hj hjk => by
          by_cases hjk2 : j < k
          · exact hno.out j hj hjk2
          · have : j = k := by omega
            subst this
            exact hg)
        generalize T[k].1 = s at v1 hg
        have b1 : (!Op.bytesLess s.toList above.toList && !(s.toList == above.toList)) = false := by rw [gtr_eq]; exact hg
        clear hg z1 z2 hl FN FS H1 H2
        go_wp2_with fail
        go_roundw
        case rel => exact ⟨k + 1, by go_num, by omega, NX, hb⟩
        case measure => simp [intOf]; omega
      · have Y := hid (fun w' hb' => FS.out k h1 hno.out hg g1 o1 c1 g2 o2 c2 w' H1.out H2.out hb')
        generalize T[k].1 = s at v1 hg
        have b1 : (!Op.bytesLess s.toList above.toList && !(s.toList == above.toList)) = true := by rw [gtr_eq]; exact hg
        have i1 : (T.length : Int) ≤ c1 := by omega
        have i2 : (T.length : Int) ≤ c2 := by omega
        clear hg z1 z2 FN FS H1 H2
        go_wp2_with fail
        go_quiet (fail)
        go_wp2
        exact Y.out _ (blw_drewN hb.out)
    · have h1k : (T.length : Int) ≤ k := by omega
      have N2 := hid (FN.out (fun j hj => hno.out j hj (by omega)) wr hb.out)
      clear FN FS H1 H2
      go_wp2_with fail
      exact N2.out

end Go.Proofs.Ythjggbcppgbdoaa

namespace Go.Proofs.Ythjggbcppgbdoaa
open Go.RowKit

/-- A store of the law, with its bounds. -/
structure Hs (w : World) (p : Nat) (V : List Pl) (m : Bool) (N : Nat) (F : Nat → Prop) (W : World) : Prop where
  z : ZV W p V m F
  fl : ∀ j, F j → j < W.heap.size
  o : ∀ j, F j → w.heap.size ≤ j
  bd : Bd N V
  be : Below w.heap.size w W

theorem Hs.below {w : World} {p : Nat} {V : List Pl} {m : Bool} {N : Nat} {F : Nat → Prop} {W W' : World} (h : Hs w p V m N F W) (hb : Below W.heap.size W W') : Hs w p V m N F W' :=
  ⟨h.z.below hb, fun j hj => Nat.lt_of_lt_of_le (h.fl j hj) hb.size, h.o, h.bd, below_on h.be hb⟩
theorem Hs.keptF {w : World} {p : Nat} {V V' : List Pl} {m m' : Bool} {N M : Nat} {F : Nat → Prop} {W W' : World} (h : Hs w p V m N F W) (hk : Kept F W W') (hz : ZV W' p V' m' F) (hb : Bd M V') : Hs w p V' m' M F W' :=
  ⟨hz, fun j hj => Nat.lt_of_lt_of_le (h.fl j hj) hk.size, h.o, hb, h.be.trans (hk.below h.be.size (fun j hj e => by have := h.o j e; omega))⟩
theorem Hs.mono {w : World} {p : Nat} {V : List Pl} {m : Bool} {N M : Nat} {F : Nat → Prop} {W : World} (h : Hs w p V m N F W) (hN : N ≤ M) : Hs w p V m M F W := ⟨h.z, h.fl, h.o, h.bd.mono hN, h.be⟩

theorem hs_write {w : World} {p : Nat} {V : List Pl} {m : Bool} {N : Nat} {F : Nat → Prop} {W : World} {x : Sp} (h : Hs w p V m N F W) (hN : N ≤ 500000) (hk : x.key.size ≤ 50000) :
    Calls Try.prog 28 #[.pointer (some ⟨p, 0, none⟩), x.agg] W fun y w' => y = .returned (.tuple #[]) ∧ (∃ F', Hs w p (wrL x m V) m (N + 1) F' w' ∧ ∀ j, F' j → F j ∨ W.heap.size ≤ j) ∧ Kept F W w' := by
  refine (write_any x p V m F W h.z h.fl (Nat.le_trans h.bd.n hN) (by omega)).mono ?_
  rintro y w' ⟨rfl, F', q1, q2, q3, q4⟩
  refine ⟨rfl, ⟨F', ⟨q1, q3, fun j hj => ?_, wr_bd h.bd hk, h.be.trans (q4.below h.be.size (fun j hj e => by have := h.o j e; omega))⟩, q2⟩, q4⟩
  rcases q2 j hj with e | e
  · exact h.o j e
  · have := h.be.size
    omega

/-- Two rows that are kept, and the block of the rounds' scripts. -/
structure Hr (W : World) (ka va : Value) (T : List (ByteArray × Int)) (rb : Nat) (rows : Array Value) (F : Nat → Prop) : Prop where
  kr : Rf W 1 ka T.length (T.map (fun e => .string e.1))
  vr : Rf W 1 va T.length (T.map (fun e => .int .i64 e.2))
  ro : ∀ j, ka.ownBlock = some j ∨ va.ownBlock = some j → ¬ F j ∧ j < W.heap.size
  rw_ : W.heap[rb]? = some (.cells rows 22 (0, 0))
  nr : ¬ F rb

theorem Hr.kept {W W' : World} {ka va : Value} {T : List (ByteArray × Int)} {rb : Nat} {rows : Array Value} {F F' : Nat → Prop} (h : Hr W ka va T rb rows F) (hk : Kept F W W') (hg : ∀ j, F' j → F j ∨ W.heap.size ≤ j) : Hr W' ka va T rb rows F' := by
  refine ⟨h.kr.kept hk (fun j hj => (h.ro j (.inl hj)).1), h.vr.kept hk (fun j hj => (h.ro j (.inr hj)).1), fun j hj => ⟨fun hf => ?_, Nat.lt_of_lt_of_le (h.ro j hj).2 hk.size⟩, hp_kept h.rw_ hk h.nr, fun hf => ?_⟩
  · rcases hg j hf with e | e
    · exact (h.ro j hj).1 e
    · have := (h.ro j hj).2
      omega
  · rcases hg _ hf with e | e
    · exact h.nr e
    · have := hp_lt h.rw_
      omega
theorem Hr.below {W W' : World} {ka va : Value} {T : List (ByteArray × Int)} {rb : Nat} {rows : Array Value} {F : Nat → Prop} (h : Hr W ka va T rb rows F) (hb : Below W.heap.size W W') : Hr W' ka va T rb rows F :=
  ⟨h.kr.below hb, h.vr.below hb, fun j hj => ⟨(h.ro j hj).1, Nat.lt_of_lt_of_le (h.ro j hj).2 hb.size⟩, hp_below h.rw_ hb (hp_lt h.rw_), h.nr⟩

/-- A store while it is marked. -/
structure Hi (w : World) (p : Nat) (ka va : Value) (T : List (ByteArray × Int)) (rb : Nat) (rows : Array Value) (N : Nat) (V : List Pl) (F : Nat → Prop) (W : World) : Prop where
  hs : Hs w p V true N F W
  hr : Hr W ka va T rb rows F
  hd : hdv V = T
  so : T.Pairwise (fun a b => kl a.1 b.1 = true)
  ab : ∀ e ∈ T, kl ⟨#[]⟩ e.1 = true
  ln : T.length ≤ 602

theorem Hi.below {w : World} {p : Nat} {ka va : Value} {T : List (ByteArray × Int)} {rb : Nat} {rows : Array Value} {N : Nat} {V : List Pl} {F : Nat → Prop} {W W' : World} (h : Hi w p ka va T rb rows N V F W) (hb : Below W.heap.size W W') : Hi w p ka va T rb rows N V F W' := ⟨h.hs.below hb, h.hr.below hb, h.hd, h.so, h.ab, h.ln⟩

theorem Hi.mono {w : World} {p : Nat} {ka va : Value} {T : List (ByteArray × Int)} {rb : Nat} {rows : Array Value} {N M : Nat} {V : List Pl} {F : Nat → Prop} {W : World} (h : Hi w p ka va T rb rows N V F W) (hN : N ≤ M) : Hi w p ka va T rb rows M V F W := ⟨h.hs.mono hN, h.hr, h.hd, h.so, h.ab, h.ln⟩

theorem hi_write {w : World} {p : Nat} {ka va : Value} {T : List (ByteArray × Int)} {rb : Nat} {rows : Array Value} {N : Nat} {V : List Pl} {F : Nat → Prop} {W : World} {x : Sp} (h : Hi w p ka va T rb rows N V F W) (hN : N ≤ 500000) (hk : x.key.size ≤ 50000) :
    Calls Try.prog 28 #[.pointer (some ⟨p, 0, none⟩), x.agg] W fun y w' => y = .returned (.tuple #[]) ∧ ∃ V' F', Hi w p ka va T rb rows (N + 1) V' F' w' := by
  refine (hs_write h.hs hN hk).mono ?_
  rintro y w' ⟨rfl, ⟨F', q1, q2⟩, q3⟩
  exact ⟨rfl, _, F', q1, h.hr.kept q3 q2, (hdv_wr h.hs.z.sorted).trans h.hd, h.so, h.ab, h.ln⟩

/-- The snapshot above a text. -/
theorem hi_snap {w : World} {p : Nat} {ka va : Value} {T : List (ByteArray × Int)} {rb : Nat} {rows : Array Value} {N : Nat} {V : List Pl} {F : Nat → Prop} {W : World} {g1 g2 gp : Nat} {above : ByteArray} (h : Hi w p ka va T rb rows N V F W) (hN : N ≤ 602) (hs : SnB W g1 g2 gp (some ⟨p, 0, none⟩) (bhd above)) (ha : above.size ≤ 281474976710000) :
    Calls Try.prog 29 #[itS g1 g2] W (PaP W (T.filter (fun e => kl above e.1))) := by
  have := pairs_snap h.hs.z h.hs.fl hs (Nat.le_trans h.hs.bd.n hN) (fun e he => by have := h.hs.bd.k e he; omega) ha
  rw [snap_hdv, h.hd] at this
  exact this

theorem filt_all {T : List (ByteArray × Int)} (h : ∀ e ∈ T, kl ⟨#[]⟩ e.1 = true) : T.filter (fun e => kl ⟨#[]⟩ e.1) = T := List.filter_eq_self.2 h

/-- The mark: what was read is held. -/
theorem hs_mark {w : World} {p : Nat} {ka va : Value} {T : List (ByteArray × Int)} {rb : Nat} {rows : Array Value} {N : Nat} {V : List Pl} {F : Nat → Prop} {W : World} (h : Hs w p V false N F W) (hr : Hr W ka va T rb rows F) (ht : T = rd V) (ha : ∀ e ∈ T, kl ⟨#[]⟩ e.1 = true) (hN : N ≤ 602) :
    Calls Try.prog 26 #[.pointer (some ⟨p, 0, none⟩)] W fun y w' => y = .returned (.int .i64 0) ∧ Hi w p ka va T rb rows N (V.map mkE) F w' := by
  refine (vmark p V F W h.z).mono ?_
  rintro y w' ⟨rfl, hz, hk⟩
  refine ⟨rfl, h.keptF hk hz ⟨by simpa using h.bd.n, fun e he => ?_⟩, hr.kept hk (fun j hj => .inl hj), by rw [ht]; exact hdv_mark V, by rw [ht]; exact rd_sorted h.z.sorted, ha, ?_⟩
  · obtain ⟨e', he', rfl⟩ := List.mem_map.1 he
    exact h.bd.k e' he'
  · rw [ht]
    have := h.bd.n
    unfold rd
    rw [List.length_map]
    exact Nat.le_trans (List.length_filter_le _ _) (by omega)

theorem hi_done {w : World} {p : Nat} {ka va : Value} {T : List (ByteArray × Int)} {rb : Nat} {rows : Array Value} {N : Nat} {V : List Pl} {F : Nat → Prop} {W : World} (h : Hi w p ka va T rb rows N V F W) (hN : N ≤ 500000) :
    Calls Try.prog 27 #[.pointer (some ⟨p, 0, none⟩)] W fun y w' => y = .returned (.int .i64 0) ∧ Hs w p (V.filter keepP) false N F w' ∧ w'.heap[rb]? = some (.cells rows 22 (0, 0)) ∧ ¬ F rb := by
  refine (vdone p V F W h.hs.z (Nat.le_trans h.hs.bd.n hN)).mono ?_
  rintro y w' ⟨rfl, hz, hk⟩
  exact ⟨rfl, h.hs.keptF hk hz ⟨Nat.le_trans (List.length_filter_le _ _) h.hs.bd.n, fun e he => h.hs.bd.k e (List.mem_filter.1 he).1⟩, hp_kept h.hr.rw_ hk h.hr.nr, h.hr.nr⟩

end Go.Proofs.Ythjggbcppgbdoaa

namespace Go.Proofs.Ythjggbcppgbdoaa
open Go.RowKit

theorem nodup_le {α : Type} [DecidableEq α] : ∀ {A B : List α}, A.Nodup → (∀ a ∈ A, a ∈ B) → A.length ≤ B.length
  | [], _, _, _ => by simp
  | a :: A, B, hn, hs => by
    have ha := hs a (by simp)
    have h1 := List.nodup_cons.1 hn
    have ih := nodup_le (A := A) (B := B.erase a) h1.2 (fun x hx => by
      rw [List.mem_erase_of_ne (by rintro rfl; exact h1.1 hx)]
      exact hs x (by simp [hx]))
    have := List.length_erase_of_mem ha
    have hp : 0 < B.length := List.length_pos_of_mem ha
    simp
    omega

/-- Is a place's key met for the first time there, and does it count? -/
def nwB (P : ByteArray → Bool) (ks : List ByteArray) (j : Nat) : Bool := !((ks.take j).any (fun y => decide (y = ks[j]?.getD ⟨#[]⟩))) && P (ks[j]?.getD ⟨#[]⟩)
def cntN (P : ByteArray → Bool) (ks : List ByteArray) (i : Nat) : Nat := ((List.range i).filter (nwB P ks)).length

theorem cnt_succ (P : ByteArray → Bool) (ks : List ByteArray) (i : Nat) : cntN P ks (i + 1) = cntN P ks i + (if nwB P ks i = true then 1 else 0) := by
  unfold cntN
  rw [List.range_succ, List.filter_append, List.length_append, List.filter_cons]
  split <;> simp

theorem cnt_le (P : ByteArray → Bool) (ks : List ByteArray) (i : Nat) : cntN P ks i ≤ i := by
  unfold cntN
  exact Nat.le_trans (List.length_filter_le _ _) (by simp)

theorem least_at {ks : List ByteArray} {k : ByteArray} (h : k ∈ ks) : ∃ j, ∃ hj : j < ks.length, ks[j] = k ∧ k ∉ ks.take j := by
  induction ks with
  | nil => cases h
  | cons a ks ih =>
    by_cases e : a = k
    · exact ⟨0, by simp, e, by simp⟩
    · have : k ∈ ks := by
        rcases List.mem_cons.1 h with h | h
        · exact absurd h.symm e
        · exact h
      obtain ⟨j, hj, h1, h2⟩ := ih this
      refine ⟨j + 1, by simp; omega, by simpa using h1, ?_⟩
      rw [List.take_succ_cons, List.mem_cons]
      rintro (h | h)
      · exact e h.symm
      · exact h2 h

theorem cnt_all {P : ByteArray → Bool} {ks T : List ByteArray} (hT : T.Nodup) (hP : ∀ k, P k = true ↔ k ∈ T) (hk : ∀ k ∈ T, k ∈ ks) : cntN P ks ks.length = T.length := by
  have e : cntN P ks ks.length = (((List.range ks.length).filter (nwB P ks)).map (fun j => ks[j]?.getD ⟨#[]⟩)).length := by simp [cntN]
  rw [e]
  refine Nat.le_antisymm (nodup_le ?_ ?_) (nodup_le hT ?_)
  · unfold List.Nodup
    rw [List.pairwise_map]
    have hp : ((List.range ks.length).filter (nwB P ks)).Pairwise (· < ·) := List.pairwise_lt_range.filter _
    refine hp.imp_of_mem ?_
    intro i j hi hj hij heq
    have hj2 := (List.mem_filter.1 hj)
    have hjl : j < ks.length := by simpa using hj2.1
    have hil : i < ks.length := by omega
    have hn := hj2.2
    unfold nwB at hn
    simp only [Bool.and_eq_true, Bool.not_eq_true'] at hn
    have h3 : (ks.take j).any (fun y => decide (y = ks[j]?.getD ⟨#[]⟩)) = true := by
      rw [List.any_eq_true]
      refine ⟨ks[i], ?_, ?_⟩
      · have : ks[i] = (ks.take j)[i]'(by simp; omega) := by simp
        rw [this]
        exact List.getElem_mem _
      · have e1 : ks[i]?.getD ⟨#[]⟩ = ks[i] := by simp [hil]
        rw [← heq, e1]
        simp
    rw [h3] at hn
    exact absurd hn.1 (by simp)
  · intro a ha
    obtain ⟨j, hj, rfl⟩ := List.mem_map.1 ha
    have hn := (List.mem_filter.1 hj).2
    unfold nwB at hn
    simp only [Bool.and_eq_true] at hn
    exact (hP _).1 hn.2
  · intro k hkT
    obtain ⟨j, hj, e1, e2⟩ := least_at (hk k hkT)
    refine List.mem_map.2 ⟨j, List.mem_filter.2 ⟨by simpa using hj, ?_⟩, by simp [hj, e1]⟩
    unfold nwB
    have e3 : ks[j]?.getD ⟨#[]⟩ = k := by simp [hj, e1]
    rw [e3, (hP k).2 hkT]
    have : (ks.take j).any (fun y => decide (y = k)) = false := by
      rw [List.any_eq_false]
      intro y hy he
      exact e2 (of_decide_eq_true he ▸ hy)
    rw [this]
    rfl

/-- The boxes of Order's last loop. -/
structure OX (W : World) (br bi bo bk bv g1 g2 : Nat) (ka va : Value) (n : Int) : Prop where
  r : W.heap[br]? = some (.cells #[.int .i64 n] 3 (0, 0))
  i : W.heap[bi]? = some (.cells #[itS g1 g2] 46 (0, 0))
  o : W.heap[bo]? = some (.cells #[.bool true] 4 (0, 0))
  k : W.heap[bk]? = some (.cells #[ka] 65 (0, 0))
  v : W.heap[bv]? = some (.cells #[va] 66 (0, 0))

theorem OX.below {W W' : World} {br bi bo bk bv g1 g2 : Nat} {ka va : Value} {n : Int} (h : OX W br bi bo bk bv g1 g2 ka va n) (hb : Below W.heap.size W W') : OX W' br bi bo bk bv g1 g2 ka va n :=
  ⟨hp_below h.r hb (hp_lt h.r), hp_below h.i hb (hp_lt h.i), hp_below h.o hb (hp_lt h.o), hp_below h.k hb (hp_lt h.k), hp_below h.v hb (hp_lt h.v)⟩

set_option maxRecDepth 100000 in
set_option maxHeartbeats 4000000 in
theorem or32 (br bi bo bk bv g1 g2 : Nat) (T : List (ByteArray × Int)) (ka va : Value) (n : Int) (key : ByteArray) (x : Int) (w : World) (h : OX w br bi bo bk bv g1 g2 ka va n) (h0 : 0 ≤ n) (h1 : n ≤ 1000)
    (hk : ∀ W, Kept (fun j => j = br ∨ j = bo) w W → Rf W 1 ka T.length (T.map (fun e => .string e.1)) ∧ Rf W 1 va T.length (T.map (fun e => .int .i64 e.2))) (hl : T.length ≤ 1000000)
    (hp : ∀ W, Kept (fun j => j = br ∨ j = bo) w W → Calls Try.prog 29 #[itS g1 g2] W (PaP W T)) :
    Calls Try.prog 32 #[.string key, .int .i64 x, .pointer (some ⟨br, 0, none⟩), .pointer (some ⟨bi, 0, none⟩), .pointer (some ⟨bo, 0, none⟩), .pointer (some ⟨bk, 0, none⟩), .pointer (some ⟨bv, 0, none⟩)] w fun e w' => e = .returned (.bool true) ∧ OX w' br bi bo bk bv g1 g2 ka va (n + 1) ∧ Kept (fun j => j = br ∨ j = bo) w w' := by
  have nrb : br ≠ bi := by intro e; subst e; have := h.r; rw [h.i] at this; cases this
  have nro : br ≠ bo := by intro e; subst e; have := h.r; rw [h.o] at this; cases this
  have nrk : br ≠ bk := by intro e; subst e; have := h.r; rw [h.k] at this; cases this
  have nrv : br ≠ bv := by intro e; subst e; have := h.r; rw [h.v] at this; cases this
  have noi : bo ≠ bi := by intro e; subst e; have := h.o; rw [h.i] at this; cases this
  have nok : bo ≠ bk := by intro e; subst e; have := h.o; rw [h.k] at this; cases this
  have nov : bo ≠ bv := by intro e; subst e; have := h.o; rw [h.v] at this; cases this
  have hnw : IntKind.i64.wrap (n + 1) = n + 1 := by rw [IntKind.wrap_i64]; omega
  have K1 := hid (show Kept (fun j => j = br ∨ j = bo) w (w.setCell ⟨br, 0, none⟩ (.int .i64 (n + 1))) from (Kept.refl (fun j => j = br ∨ j = bo) w).setCell (p := ⟨br, 0, none⟩) (fun _ => .inl rfl) _)
  have X1 := hid (show OX (w.setCell ⟨br, 0, none⟩ (.int .i64 (n + 1))) br bi bo bk bv g1 g2 ka va (n + 1) from ⟨set_block (i := 0) h.r _, hp_set h.i (fun e => nrb e.symm) _, hp_set h.o (fun e => nro e.symm) _, hp_set h.k (fun e => nrk e.symm) _, hp_set h.v (fun e => nrv e.symm) _⟩)
  obtain ⟨ao1, cap1, e1, -, -⟩ := (hk w (Kept.refl _ _)).1.shape
  obtain ⟨ao2, cap2, e2, -, -⟩ := (hk w (Kept.refl _ _)).2.shape
  have HK := hid hk
  have HP := hid hp
  have HL := hid hl
  have NE := hid (show bo ≠ br ∧ bo ≠ bi ∧ bo ≠ bk ∧ bo ≠ bv from ⟨fun e => nro e.symm, noi, nok, nov⟩)
  have c0 := cells1 h.r
  have fr : w.frozen? ⟨br, 0, none⟩ = false := free_of_block h.r
  generalize hTl : T.length = tl at e1 e2
  subst e1 e2
  clear h hk hp hl h0 h1 nrb nro nrk nrv noi nok nov hTl
  go_enter Try.func32, Try.ntmps32
  go_upto_region 2 with fail
  clear c0 fr
  generalize w.setCell ⟨br, 0, none⟩ (.int .i64 (n + 1)) = W1 at K1 X1 ⊢
  have c1 := cells1 X1.out.i
  have PP := hid (HP.out W1 K1.out)
  clear HP
  go_upto_region 3 with (
    go_at_call 29
    refine PP.out.mono ?_
    rintro e w2 ⟨k2, u2, rfl, hk2, hv2, -, hb⟩
    have X2 := hid (X1.out.below hb)
    have K2 := hid (K1.out.trans (Kept.ofBelow hb) (fun _ _ e => e.elim))
    have M1 := hid (same_any T k2 u2 _ _ w2 hk2 hv2 (HK.out w2 K2.out).1 (HK.out w2 K2.out).2 HL.out)
    obtain ⟨ao5, cap5, e1, -, -⟩ := hk2.shape
    obtain ⟨ap5, caq5, e2, -, -⟩ := hv2.shape
    generalize T.length = tl2 at e1 e2
    subst e1 e2
    clear hk2 hv2 hb PP c1)
  have d0 := cells1 X2.out.o
  have d1 := cells1 X2.out.k
  have d2 := cells1 X2.out.v
  go_upto_region 4 with (
    go_at_call 30
    refine M1.out.mono ?_
    rintro e w3 ⟨rfl, hb⟩
    have X3 := hid (X2.out.below hb)
    have K3 := hid (K2.out.trans (Kept.ofBelow hb) (fun _ _ e => e.elim))
    have d0 := cells1 X3.out.o
    have fo : w3.frozen? ⟨bo, 0, none⟩ = false := free_of_block X3.out.o
    clear hb M1)
  have X4 := hid (show OX (w3.setCell ⟨bo, 0, none⟩ (.bool true)) br bi bo bk bv g1 g2 _ _ (n + 1) from ⟨hp_set X3.out.r (fun e => NE.out.1 e.symm) _, hp_set X3.out.i (fun e => NE.out.2.1 e.symm) _, set_block (i := 0) X3.out.o _, hp_set X3.out.k (fun e => NE.out.2.2.1 e.symm) _, hp_set X3.out.v (fun e => NE.out.2.2.2 e.symm) _⟩)
  have K4 := hid (show Kept (fun j => j = br ∨ j = bo) w (w3.setCell ⟨bo, 0, none⟩ (.bool true)) from K3.out.setCell (p := ⟨bo, 0, none⟩) (fun _ => .inr rfl) _)
  clear d0 d1 d2 fo X3 K3 X2 K2
  generalize w3.setCell ⟨bo, 0, none⟩ (.bool true) = W4 at X4 K4 ⊢
  have c4 := cells1 X4.out.o
  go_wp2_with fail
  go_ret
  exact ⟨rfl, X4.out, K4.out⟩

theorem e32 : ∀ args w, (callFunc 32 args).run Try.prog w = .ok (.enter 32 args) w := enters_of Try.func32 (by kernel_rfl) rfl

end Go.Proofs.Ythjggbcppgbdoaa

namespace Go.Proofs.Ythjggbcppgbdoaa
open Go.RowKit

theorem rg_off {w : World} {g1 g2 gp ge br bo : Nat} {o : Option Addr} {frm to : ByteArray} {n : Int} (hs : RgB w g1 g2 gp ge o frm to) (hr : w.heap[br]? = some (.cells #[.int .i64 n] 3 (0, 0))) (ho : w.heap[bo]? = some (.cells #[.bool true] 4 (0, 0))) : ∀ W, Kept (fun j => j = br ∨ j = bo) w W → RgB W g1 g2 gp ge o frm to := by
  intro W hk
  have h1 := hs.f
  have h2 := hs.s
  have h3 := hs.p
  have h4 := hs.e
  unfold Bx at h1 h4
  refine ⟨hp_kept h1 hk ?_, hp_kept h2 hk ?_, hp_kept h3 hk ?_, hp_kept h4 hk ?_⟩
  · rintro (e | e) <;> subst e
    · rw [hr] at h1; cases h1
    · rw [ho] at h1; cases h1
  · rintro (e | e) <;> subst e
    · rw [hr] at h2; cases h2
    · rw [ho] at h2; cases h2
  · rintro (e | e) <;> subst e
    · rw [hr] at h3; cases h3
    · rw [ho] at h3; cases h3
  · rintro (e | e) <;> subst e
    · rw [hr] at h4; cases h4
    · rw [ho] at h4; cases h4

theorem or_loop {w : World} {p : Nat} {V : List Pl} {m : Bool} {F : Nat → Prop} {g1 g2 gp ge br bi bo bk bv : Nat} {frm0 to : ByteArray} {ka va : Value} (hz : ZV w p V m F) (hF : ∀ j, F j → j < w.heap.size) (hs : RgB w g1 g2 gp ge (some ⟨p, 0, none⟩) frm0 to) (hl : V.length ≤ 602) (hks : ∀ e ∈ V, e.1.size ≤ 281474976710000) (hf : frm0.size ≤ 281474976710001) (ht : to.size ≤ 281474976710000)
    (h : OX w br bi bo bk bv g1 g2 ka va 0) (hnF : ¬ F br ∧ ¬ F bo) (hk : Rf w 1 ka (kx false (rl false frm0 to V)).length ((kx false (rl false frm0 to V)).map (fun e => .string e.1))) (hv : Rf w 1 va (kx false (rl false frm0 to V)).length ((kx false (rl false frm0 to V)).map (fun e => .int .i64 e.2))) (hro : ∀ j, ka.ownBlock = some j ∨ va.ownBlock = some j → j ≠ br ∧ j ≠ bo) :
    Calls Try.prog 75 #[.func (.func 32) #[] #[.pointer (some ⟨br, 0, none⟩), .pointer (some ⟨bi, 0, none⟩), .pointer (some ⟨bo, 0, none⟩), .pointer (some ⟨bk, 0, none⟩), .pointer (some ⟨bv, 0, none⟩)], .pointer (some ⟨g1, 0, none⟩), .pointer (some ⟨g2, 0, none⟩)] w fun y w' => y = .returned (.tuple #[]) ∧ OX w' br bi bo bk bv g1 g2 ka va ((kx false (rl false frm0 to V)).length : Nat) ∧ Kept (fun j => j = br ∨ j = bo) w w' := by
  have hso := hz.sorted
  have htl := kx_len false frm0 to V
  have RG := rg_off hs h.r h.o
  have ZK : ∀ W, Kept (fun j => j = br ∨ j = bo) w W → ZV W p V m F := fun W hk => hz.kept hk (fun j hj e => e.elim (fun e => hnF.1 (e ▸ hj)) (fun e => hnF.2 (e ▸ hj)))
  have B : BodyS 54 #[.pointer (some ⟨gp, 0, none⟩), .pointer (some ⟨ge, 0, none⟩)] 32 #[.pointer (some ⟨br, 0, none⟩), .pointer (some ⟨bi, 0, none⟩), .pointer (some ⟨bo, 0, none⟩), .pointer (some ⟨bk, 0, none⟩), .pointer (some ⟨bv, 0, none⟩)] g2
      (fun mm frm W => frm.size ≤ 281474976710001 ∧ ∃ n : Nat, OX W br bi bo bk bv g1 g2 ka va n ∧ n + (rl false frm to V).length = (kx false (rl false frm0 to V)).length ∧ mm = (rl false frm to V).length ∧ Kept (fun j => j = br ∨ j = bo) w W)
      (fun mm k x W => ∃ frm e, ∃ n : Nat, leastP false frm to V = some e ∧ k = e.1 ∧ OX W br bi bo bk bv g1 g2 ka va n ∧ n + (rl false frm to V).length = (kx false (rl false frm0 to V)).length ∧ mm = (rl false frm to V).length ∧ Kept (fun j => j = br ∨ j = bo) w W)
      (fun W => OX W br bi bo bk bv g1 g2 ka va ((kx false (rl false frm0 to V)).length : Nat) ∧ Kept (fun j => j = br ∨ j = bo) w W) := by
    refine ⟨?_, ?_, ?_, ?_⟩
    · rintro mm frm W ⟨-, n, -, -, -, hk⟩
      exact (RG W hk).s
    · rintro mm frm W ⟨hsz, n, hb, hn, rfl, hk⟩
      have g := RG W hk
      have L := find54 (some ⟨p, 0, none⟩) frm to gp ge _ _ _ W g.p g.e (vleast49 p frm to V m F W (ZK W hk) (by omega) (by omega))
      cases hf : leastP false frm to V with
      | none =>
        rw [leastW_none hf] at L
        refine L.mono ?_
        rintro y w' ⟨rfl, hbl⟩
        rw [rl_nil hf] at hn
        simp only [List.length_nil, Nat.add_zero] at hn
        exact .inl ⟨_, _, rfl, hn ▸ hb.below hbl, hk.trans (Kept.ofBelow hbl) (fun _ _ e => e.elim)⟩
      | some e =>
        rw [leastW_some hf] at L
        refine L.mono ?_
        rintro y w' ⟨rfl, hbl⟩
        exact .inr ⟨_, _, rfl, frm, e, n, hf, rfl, hb.below hbl, hn, rfl, hk.trans (Kept.ofBelow hbl) (fun _ _ e => e.elim)⟩
    · rintro mm k x W ⟨frm, e, n, hf, rfl, -⟩
      exact hks e (List.mem_of_find?_eq_some hf)
    · rintro mm k x W ⟨frm, e, n, hfe, rfl, hb, hn, rfl, hkW⟩
      have hc := rl_cons hso hfe
      have hn' : n + 1 + (rl false (bhd e.1) to V).length = (kx false (rl false frm0 to V)).length := by
        rw [hc] at hn
        simp only [List.length_cons] at hn
        omega
      have rows : ∀ W', Kept (fun j => j = br ∨ j = bo) W W' → Rf W' 1 ka (kx false (rl false frm0 to V)).length ((kx false (rl false frm0 to V)).map (fun e => .string e.1)) ∧ Rf W' 1 va (kx false (rl false frm0 to V)).length ((kx false (rl false frm0 to V)).map (fun e => .int .i64 e.2)) := fun W' hk' => by
        have hka := hkW.trans hk' (fun _ _ q => q)
        exact ⟨hk.kept hka (fun j hj e => e.elim (hro j (.inl hj)).1 (hro j (.inl hj)).2), hv.kept hka (fun j hj e => e.elim (hro j (.inr hj)).1 (hro j (.inr hj)).2)⟩
      refine (or32 br bi bo bk bv g1 g2 (kx false (rl false frm0 to V)) ka va n e.1 x W hb (by omega) (by omega) rows (by omega) (fun W' hk' => ?_)).mono ?_
      · have hka := hkW.trans hk' (fun _ _ q => q)
        exact pairs_range (ZK W' hka) (fun j hj => Nat.lt_of_lt_of_le (hF j hj) hka.size) (RG W' hka) hl hks hf ht
      · rintro y w' ⟨rfl, hb', hk'⟩
        refine .inr ⟨rfl, (rl false (bhd e.1) to V).length, by rw [hc]; simp, by rw [bhd_size]; have := hks e (List.mem_of_find?_eq_some hfe); omega, n + 1, hb', hn', rfl, hkW.trans hk' (fun _ _ q => q)⟩
  refine iterS B e54 e32 _ frm0 w ⟨hf, 0, h, ?_, rfl, Kept.refl _ _⟩ hs.f
  simp [kx]

/-- What the keys of a range are. -/
theorem kx_mem {frm to : ByteArray} {V : List Pl} (h : Srt V) : ∀ y ∈ kx false (rl false frm to V), rgetV y.1 V = (y.2, true) ∧ kl y.1 frm = false ∧ ((to.toList == []) = true ∨ kl to y.1 = false) := by
  intro y hy
  unfold kx rl at hy
  obtain ⟨e, he, rfl⟩ := List.mem_map.1 hy
  obtain ⟨hV, hfit⟩ := List.mem_filter.1 he
  unfold fitP at hfit
  simp only [Bool.and_eq_true, Bool.or_eq_true, Bool.not_eq_true'] at hfit
  obtain ⟨V1, V2, rfl, a1, a2⟩ := sorted_split h hV
  refine ⟨?_, hfit.1.1, hfit.1.2⟩
  have := get_has (s := e.2) a1 a2
  rw [show ((e.1, e.2) : Pl) = e from rfl] at this
  rw [this]
  have h2 := hfit.2
  simp only [see] at h2 ⊢
  simp at h2
  simp [h2]

theorem kx_sorted {frm to : ByteArray} {V : List Pl} (h : Srt V) : (kx false (rl false frm to V)).Pairwise (fun a b => kl a.1 b.1 = true) := by
  unfold kx rl
  rw [List.pairwise_map]
  exact h.filter _

/-- Does a key count? -/
def cP (frm to : ByteArray) (V : List Pl) (k : ByteArray) : Bool := (rgetV k V).2 && !kl k frm && ((to.toList == []) || !kl to k)

theorem cP_iff {frm to : ByteArray} {V : List Pl} (h : Srt V) (k : ByteArray) : cP frm to V k = true ↔ k ∈ (kx false (rl false frm to V)).map (fun e => e.1) := by
  constructor
  · intro hc
    unfold cP at hc
    simp only [Bool.and_eq_true, Bool.or_eq_true, Bool.not_eq_true'] at hc
    obtain ⟨e, he, hk⟩ := (least_first (K := k) h).1 hc.1.1
    have hp := List.find?_some he
    have hm := List.mem_of_find?_eq_some he
    unfold fitP at hp
    simp only [Bool.and_eq_true] at hp
    unfold kx rl
    rw [List.map_map]
    refine List.mem_map.2 ⟨e, List.mem_filter.2 ⟨hm, ?_⟩, hk⟩
    unfold fitP
    simp only [Bool.and_eq_true, Bool.or_eq_true, Bool.not_eq_true']
    rw [hk]
    exact ⟨⟨hc.1.2, hc.2⟩, hp.2⟩
  · intro hk
    obtain ⟨y, hy, rfl⟩ := List.mem_map.1 hk
    obtain ⟨a, b, c⟩ := kx_mem h y hy
    unfold cP
    rw [a, b]
    rcases c with c | c
    · simp [c]
    · simp [c]

theorem kx_nodup {frm to : ByteArray} {V : List Pl} (h : Srt V) : ((kx false (rl false frm to V)).map (fun e => e.1)).Nodup := by
  unfold List.Nodup
  rw [List.pairwise_map]
  exact (kx_sorted h).imp (fun hk => kl_ne hk)

theorem kx_keys {frm to : ByteArray} {V : List Pl} {ks : List ByteArray} (hk : ∀ e ∈ V, e.1 ∈ ks) : ∀ k ∈ (kx false (rl false frm to V)).map (fun e => e.1), k ∈ ks := by
  intro k hkk
  unfold kx rl at hkk
  rw [List.map_map] at hkk
  obtain ⟨e, he, rfl⟩ := List.mem_map.1 hkk
  exact hk e (List.mem_filter.1 he).1

theorem cnt_range {frm to : ByteArray} {V : List Pl} {ks : List ByteArray} (h : Srt V) (hk : ∀ e ∈ V, e.1 ∈ ks) : cntN (cP frm to V) ks ks.length = (kx false (rl false frm to V)).length := by
  rw [cnt_all (kx_nodup h) (cP_iff h) (kx_keys hk)]
  simp

/-- A write brings no key but its own. -/
theorem wr_keys {x : Sp} {m : Bool} {V : List Pl} {P : ByteArray → Prop} (h : ∀ e ∈ V, P e.1) (hx : P x.key) : ∀ e ∈ wrL x m V, P e.1 := by
  have K : ∀ (s : Sd) (i j : Nat), ∀ e ∈ V.take i ++ (x.key, s) :: V.drop j, P e.1 := fun s i j e he => by
    rcases List.mem_append.1 he with h1 | h1
    · exact h e (List.mem_of_mem_take h1)
    · rcases List.mem_cons.1 h1 with rfl | h1
      · exact hx
      · exact h e (List.mem_of_mem_drop h1)
  unfold wrL
  split
  · unfold rdelL
    split
    · split
      · split
        · exact K _ _ _
        · intro e he
          exact K _ _ _ e (List.mem_filter.1 he).1
      · exact h
    · exact h
  split
  · unfold rputL
    split
    · split
      · exact K _ _ _
      · exact K _ _ _
    · exact K _ _ _
  · exact h

end Go.Proofs.Ythjggbcppgbdoaa
