import Derived.Test.YthcoigbkdbkojabGreatK16
set_option maxRecDepth 100000
namespace Go.Proofs.YthcoigbkdbkojabGreat
open Go.RowKit Go.MapKept
open V (hp_new hp_lt hp_below hp_alloc kl)
attribute [local go_sem] Oper.semAt_some
def bErr (v : Vd) : Int := if v.k = 0 then 0 else kErr v
def bKey (v : Vd) : ByteArray := if v.k = 0 then emp else v.t
theorem bErr_no {v : Vd} (h : bErr v ≠ 0) : v.k ≠ 0 ∧ kErr v ≠ 0 ∧ bErr v = kErr v := by
  unfold bErr at h ⊢
  by_cases e : v.k = 0
  · rw [if_pos e] at h; exact absurd rfl h
  · rw [if_neg e] at h ⊢; exact ⟨e, h, rfl⟩
theorem bKey_size {v : Vd} (h : bErr v = 0) : (bKey v).size ≤ 64 := by
  unfold bErr at h
  unfold bKey
  by_cases e : v.k = 0
  · rw [if_pos e]; exact Nat.zero_le _
  · rw [if_neg e] at h ⊢
    exact (isKey_size (kErr_ok h).2.2.2).2
theorem bKey_ok {v : Vd} (h : bErr v = 0) : bKey v = emp ∨ isKeyB (bKey v) = true := by
  unfold bErr at h
  unfold bKey
  by_cases e : v.k = 0
  · rw [if_pos e]; exact .inl rfl
  · rw [if_neg e] at h ⊢
    exact .inr (kErr_ok h).2.2.2
section
variable {w w' : World} {B mb M : Nat} {s : Ms} {td : List Vd} {lk : List (ByteArray × ByteArray)} {kv : List (ByteArray × Value)}
theorem bd_ok (r : Int) (h : MX w B mb s td lk M kv) (h0 : 0 ≤ r) (h1 : r < 16) (hk : bErr (s.rg r) = 0) :
    Calls Tryz.prog 104 #[.pointer (some ⟨mb, 0, none⟩), .int .i64 r] w fun e w' => e = .returned (.string (bKey (s.rg r))) ∧ Below w.heap.size w w' := by
  unfold bErr at hk
  unfold bKey
  by_cases e : (s.rg r).k = 0
  · rw [if_pos e]; exact bound_none r h h0 h1 e
  · rw [if_neg e] at hk ⊢; exact bound_ok r h h0 h1 e hk
theorem bd_no (r : Int) (h : MX w B mb s td lk M kv) (h0 : 0 ≤ r) (h1 : r < 16) (hk : bErr (s.rg r) ≠ 0) :
    Calls Tryz.prog 104 #[.pointer (some ⟨mb, 0, none⟩), .int .i64 r] w fun e w' => e = gu (stE (bErr (s.rg r))) ∧ Below w.heap.size w w' := by
  obtain ⟨h2, h3, h4⟩ := bErr_no hk
  rw [h4]
  exact bound_no r h h0 h1 h2 h3
end
def thr {α : Type} (nx : ByteArray → ByteArray) (f : α → ByteArray → α × Int) (to : ByteArray) : Nat → ByteArray → α → α × Int × ByteArray
  | 0, _, a => (a, 0, to)
  | m + 1, k, a => if k = emp then (a, 0, to) else if m = 0 ∨ (f a k).2 ≠ 0 then ((f a k).1, (f a k).2, k) else thr nx f to m (nx k) (f a k).1
theorem thr_end {α : Type} (nx : ByteArray → ByteArray) (f : α → ByteArray → α × Int) (to : ByteArray) (m : Nat) (a : α) : thr nx f to m emp a = (a, 0, to) := by
  cases m with
  | zero => rfl
  | succ m => unfold thr; rw [if_pos rfl]
structure TB (W : World) (b4 b5 b8 b9 b10 : Nat) (x : Ins) (ev : Value) (n er : Int) (last : ByteArray) : Prop where
  i : W.heap[b4]? = some (io x.op x.a x.b x.c x.n x.k x.i x.t)
  e : W.heap[b5]? = some (.cells #[ev] 171 (0, 0))
  n : W.heap[b8]? = some (.cells #[.int .i64 n] 3 (0, 0))
  er : W.heap[b9]? = some (.cells #[.int .i64 er] 69 (0, 0))
  l : W.heap[b10]? = some (.cells #[.string last] 9 (0, 0))
theorem TB.kept {W W' : World} {b4 b5 b8 b9 b10 : Nat} {x : Ins} {ev : Value} {n er : Int} {last : ByteArray} {S : Nat → Prop} (h : TB W b4 b5 b8 b9 b10 x ev n er last) (hk : Kept S W W') (h4 : ¬ S b4) (h5 : ¬ S b5) (h8 : ¬ S b8) (h9 : ¬ S b9) (h10 : ¬ S b10) : TB W' b4 b5 b8 b9 b10 x ev n er last :=
  ⟨hpk h.i hk h4, hpk h.e hk h5, hpk h.n hk h8, hpk h.er hk h9, hpk h.l hk h10⟩
theorem TB.below {W W' : World} {b4 b5 b8 b9 b10 : Nat} {x : Ins} {ev : Value} {n er : Int} {last : ByteArray} (h : TB W b4 b5 b8 b9 b10 x ev n er last) (hb : Below W.heap.size W W') : TB W' b4 b5 b8 b9 b10 x ev n er last :=
  h.kept (Kept.ofBelow hb) (fun e => e) (fun e => e) (fun e => e) (fun e => e) (fun e => e)
theorem TB.ne {W : World} {b4 b5 b8 b9 b10 : Nat} {x : Ins} {ev : Value} {n er : Int} {last : ByteArray} (h : TB W b4 b5 b8 b9 b10 x ev n er last) : b4 ≠ b8 ∧ b4 ≠ b9 ∧ b4 ≠ b10 ∧ b5 ≠ b8 ∧ b5 ≠ b9 ∧ b5 ≠ b10 ∧ b8 ≠ b9 ∧ b8 ≠ b10 ∧ b9 ≠ b10 := by
  obtain ⟨h1, h2, h3, h4, h5⟩ := h
  refine ⟨?_, ?_, ?_, ?_, ?_, ?_, ?_, ?_, ?_⟩ <;> (rintro rfl; simp_all)
theorem TB.set8 {W : World} {b4 b5 b8 b9 b10 : Nat} {x : Ins} {ev : Value} {n er : Int} {last : ByteArray} (h : TB W b4 b5 b8 b9 b10 x ev n er last) (n' : Int) : TB (W.setCell ⟨b8, 0, none⟩ (.int .i64 n')) b4 b5 b8 b9 b10 x ev n' er last := by
  obtain ⟨q1, q2, q3, q4, q5, q6, q7, q8, q9⟩ := h.ne
  exact ⟨V.hp_set h.i q1 _, V.hp_set h.e q4 _, V.set_block (i := 0) h.n _, V.hp_set h.er (Ne.symm q7) _, V.hp_set h.l (Ne.symm q8) _⟩
theorem TB.set9 {W : World} {b4 b5 b8 b9 b10 : Nat} {x : Ins} {ev : Value} {n er : Int} {last : ByteArray} (h : TB W b4 b5 b8 b9 b10 x ev n er last) (e' : Int) : TB (W.setCell ⟨b9, 0, none⟩ (.int .i64 e')) b4 b5 b8 b9 b10 x ev n e' last := by
  obtain ⟨q1, q2, q3, q4, q5, q6, q7, q8, q9⟩ := h.ne
  exact ⟨V.hp_set h.i q2 _, V.hp_set h.e q5 _, V.hp_set h.n q7 _, V.set_block (i := 0) h.er _, V.hp_set h.l (Ne.symm q9) _⟩
theorem TB.set10 {W : World} {b4 b5 b8 b9 b10 : Nat} {x : Ins} {ev : Value} {n er : Int} {last : ByteArray} (h : TB W b4 b5 b8 b9 b10 x ev n er last) (k : ByteArray) : TB (W.setCell ⟨b10, 0, none⟩ (.string k)) b4 b5 b8 b9 b10 x ev n er k := by
  obtain ⟨q1, q2, q3, q4, q5, q6, q7, q8, q9⟩ := h.ne
  exact ⟨V.hp_set h.i q3 _, V.hp_set h.e q6 _, V.hp_set h.n q8 _, V.hp_set h.er q9 _, V.set_block (i := 0) h.l _⟩
theorem thr_size {α : Type} {nx : ByteArray → ByteArray} {f : α → ByteArray → α × Int} {to : ByteArray} (hz : ∀ t, nx t = emp ∨ isKeyB (nx t) = true) (ht : to.size ≤ 64) : ∀ (m : Nat) (k : ByteArray) (a : α), (k = emp ∨ isKeyB k = true) → (thr nx f to m k a).2.2.size ≤ 64
  | 0, _, _, _ => ht
  | m + 1, k, a, hk => by
    unfold thr
    by_cases e : k = emp
    · rw [if_pos e]; exact ht
    · rw [if_neg e]
      split
      · exact (isKey_size (hk.resolve_left e)).2
      · exact thr_size hz ht m _ _ (hz k)
theorem thr_err {α : Type} {nx : ByteArray → ByteArray} {f : α → ByteArray → α × Int} {to : ByteArray} (hf : ∀ a k, (f a k).2 = 0 ∨ isErr (f a k).2) : ∀ (m : Nat) (k : ByteArray) (a : α), (thr nx f to m k a).2.1 = 0 ∨ isErr (thr nx f to m k a).2.1
  | 0, _, _ => .inl rfl
  | m + 1, k, a => by
    unfold thr
    by_cases e : k = emp
    · rw [if_pos e]; exact .inl rfl
    · rw [if_neg e]
      split
      · exact hf a k
      · exact thr_err hf m _ _
theorem MX.off {w w' : World} {B mb M : Nat} {s : Ms} {td : List Vd} {lk : List (ByteArray × ByteArray)} {kv : List (ByteArray × Value)} (h : MX w B mb s td lk M kv) {D : Nat} {ds : Option (List Deferred)} (hk : Kept (fun j => j = D) w w') (hD : w.heap[D]? = some (.deferred ds)) : MX w' B mb s td lk M kv := by
  obtain ⟨cs, hbm, -⟩ := h.m.ex
  refine ⟨h.m.kept hk (fun e => by rw [← e, hbm] at hD; cases hD), h.ge, ?_, ?_, h.wv, ?_, h.gm⟩
  · exact ownsRow_kept h.td hk (fun k e e2 => owns_blk h.td (k := D) (by rw [← e2]; exact e) hD (fun cs e => by cases e))
  · exact ownsRow_kept h.lk hk (fun k e e2 => owns_blk h.lk (k := D) (by rw [← e2]; exact e) hD (fun cs e => by cases e))
  · obtain ⟨es, c, g⟩ := h.mg
    exact ⟨es, c, g.kept hk (fun e => by have h1 := g.blk; rw [e, hD] at h1; cases h1)⟩
theorem keepsFrom_kept {Bz : Nat} {T : Nat → Prop} {W W' : World} (hk : Kept T W W') (ht : ∀ j, T j → j < Bz) : KeepsFrom Bz W W' := ⟨hk.size, fun j ob hj h1 _ => hpk h1 hk (fun e => by have := ht j e; omega)⟩
section
variable {w0 w : World} {B mb M : Nat} {s : Ms} {td : List Vd} {lk : List (ByteArray × ByteArray)} {l : KV} {α : Type}
structure Each (w0 w : World) (F : Nat) (caps : Array Value) (f : α → ByteArray → α × Int) (St : α → World → Prop) (T : Nat → Prop) : Prop where
  t : ∀ j, T j → w0.heap.size ≤ j ∧ j < w.heap.size
  keep : ∀ {a W W' S}, St a W → Kept S W W' → (∀ j, S j → w.heap.size ≤ j) → St a W'
  look : ∀ {a W W' S}, St a W → Kept S W W' → (∀ j, S j → j < w0.heap.size) → St a W'
  run : ∀ {a W} (k : ByteArray), St a W → Below w0.heap.size w0 W → isKeyB k = true → Calls Tryz.prog F (#[.string k] ++ caps) W fun e w' => e = .returned (.int .i64 (f a k).2) ∧ St (f a k).1 w' ∧ Kept T W w'
  er : ∀ a k, (f a k).2 = 0 ∨ isErr (f a k).2
def TI (w : World) (b4 b5 b8 b9 b10 g1 g2 g3 mb : Nat) (x : Ins) (ev : Value) (frm to : ByteArray) (nx : ByteArray → ByteArray) (f : α → ByteArray → α × Int) (St : α → World → Prop) (T : Nat → Prop) (N : Nat) (R : α × Int × ByteArray) (k : ByteArray) (W : World) : Prop :=
  ∃ (a : α) (n : Nat), St a W ∧ TB W b4 b5 b8 b9 b10 x ev n 0 to ∧ KB W g1 g2 g3 mb frm to ∧ Kept T w W ∧ n < N ∧ (k = emp ∨ isKeyB k = true) ∧ thr nx f to (N - n) k a = R
def TX (w : World) (b4 b5 b8 b9 b10 : Nat) (x : Ins) (ev : Value) (St : α → World → Prop) (T : Nat → Prop) (R : α × Int × ByteArray) (W : World) : Prop :=
  ∃ n : Int, St R.1 W ∧ TB W b4 b5 b8 b9 b10 x ev n R.2.1 R.2.2 ∧ Kept T w W
theorem TI.toX {b4 b5 b8 b9 b10 g1 g2 g3 : Nat} {x : Ins} {ev : Value} {frm to : ByteArray} {nx : ByteArray → ByteArray} {f : α → ByteArray → α × Int} {St : α → World → Prop} {T : Nat → Prop} {N : Nat} {R : α × Int × ByteArray} {W : World} (h : TI w b4 b5 b8 b9 b10 g1 g2 g3 mb x ev frm to nx f St T N R emp W) : TX w b4 b5 b8 b9 b10 x ev St T R W := by
  obtain ⟨a, n, h1, h2, h3, h4, h5, h6, h7⟩ := h
  rw [thr_end] at h7
  subst h7
  exact ⟨n, h1, h2, h4⟩
theorem Each.b0 {F : Nat} {caps : Array Value} {f : α → ByteArray → α × Int} {St : α → World → Prop} {T : Nat → Prop} (h : Each w0 w F caps f St T) (hb : Below w0.heap.size w0 w) {W : World} (hk : Kept T w W) : Below w0.heap.size w0 W :=
  hb.trans (hk.below hb.size (fun k hk' e => by have := (h.t k e).1; omega))
theorem thrI {F : Nat} {caps : Array Value} {Bz b4 b5 b8 b9 b10 g1 g2 g3 : Nat} {x : Ins} {ev : Value} {frm to : ByteArray} {sv : Vd} {nx : ByteArray → ByteArray} {f : α → ByteArray → α × Int} {St : α → World → Prop} {T : Nat → Prop} {N : Nat} {R : α × Int × ByteArray} (hE : Each w0 w F caps f St T) (hb : Below w0.heap.size w0 w) (hz : w.heap.size ≤ Bz)
    (hab : ∀ W, Below w0.heap.size w0 W → ∀ text : ByteArray, text.size ≤ 1000 → Calls Tryz.prog 105 #[.pointer (some ⟨mb, 0, none⟩), .string text, .string to] W fun e w' => e = .returned (.string (nx text)) ∧ Below W.heap.size W w')
    (hse : ∀ W, Below w0.heap.size w0 W → Calls Tryz.prog 93 #[.pointer (some ⟨mb, 0, none⟩), .string frm] W fun e w' => e = .returned sv.val ∧ Below W.heap.size W w') :
    RangeKI Bz g1 g2 g3 mb frm to sv nx (TI w b4 b5 b8 b9 b10 g1 g2 g3 mb x ev frm to nx f St T N R) (TX w b4 b5 b8 b9 b10 x ev St T R) := by
  have NC : ∀ {W : World} {S : Nat → Prop}, (∀ j, S j → Bz ≤ j ∧ ∃ ob : Obj, W.heap[j]? = some ob ∧ ob.isCells = false) → ∀ {j cs ty}, W.heap[j]? = some (.cells cs ty (0, 0)) → ¬ S j := fun hS j cs ty hj hs => by
    obtain ⟨-, ob, ho, hc⟩ := hS j hs
    rw [hj] at ho
    cases ho
    cases hc
  refine ⟨?_, ?_, ?_, ?_, ?_⟩
  · rintro k W ⟨a, n, h1, h2, h3, -⟩
    exact h3
  · rintro k W W' S ⟨a, n, h1, h2, h3, h4, h5⟩ hk hS
    refine ⟨a, n, hE.keep h1 hk (fun j e => Nat.le_trans hz (hS j e).1), h2.kept hk (NC hS h2.i) (NC hS h2.e) (NC hS h2.n) (NC hS h2.er) (NC hS h2.l), ⟨hpk h3.f hk (NC hS h3.f), hpk h3.m hk (NC hS h3.m), hpk h3.t hk (NC hS h3.t)⟩, h4.trans hk (fun j hj e => by have := (hS j e).1; omega), h5⟩
  · rintro W W' S ⟨n, h1, h2, h4⟩ hk hS
    exact ⟨n, hE.keep h1 hk (fun j e => Nat.le_trans hz (hS j e).1), h2.kept hk (NC hS h2.i) (NC hS h2.e) (NC hS h2.n) (NC hS h2.er) (NC hS h2.l), h4.trans hk (fun j hj e => by have := (hS j e).1; omega)⟩
  · rintro k W ⟨a, n, h1, h2, h3, h4, -⟩
    exact hab W (hE.b0 hb h4)
  · rintro k W ⟨a, n, h1, h2, h3, h4, -⟩
    exact hse W (hE.b0 hb h4)
set_option maxHeartbeats 6400000 in
theorem through132 (x : Ins) (tb m2 : Nat) (f : α → ByteArray → α × Int) (St : α → World → Prop) (T : Nat → Prop) (a0 : α) (nx : ByteArray → ByteArray) (sv : Vd) (h : MX w0 B mb s td lk M (kvV l)) (hb0 : Below w0.heap.size w0 w)
    (b0 : 0 ≤ x.b) (b1 : x.b < 16) (c0 : 0 ≤ x.c) (c1 : x.c < 16) (n0 : 1 ≤ x.n) (n1 : x.n ≤ 64) (hB : bErr (s.rg x.b) = 0) (hC : bErr (s.rg x.c) = 0) (hgo : bKey (s.rg x.c) = emp ∨ kl (bKey (s.rg x.c)) (bKey (s.rg x.b)) = false) (hl : lk.length ≤ 999)
    (hE : Each w0 w 102 #[.pointer (some ⟨tb, 0, none⟩), .pointer (some ⟨m2, 0, none⟩)] f St T) (hS : St a0 w)
    (hab : ∀ W, Below w0.heap.size w0 W → ∀ text : ByteArray, text.size ≤ 1000 → Calls Tryz.prog 105 #[.pointer (some ⟨mb, 0, none⟩), .string text, .string (bKey (s.rg x.c))] W fun e w' => e = .returned (.string (nx text)) ∧ Below W.heap.size W w')
    (hse : ∀ W, Below w0.heap.size w0 W → Calls Tryz.prog 93 #[.pointer (some ⟨mb, 0, none⟩), .string (bKey (s.rg x.b))] W fun e w' => e = .returned sv.val ∧ Below W.heap.size W w')
    (μ : ByteArray → Nat) (hμ : ∀ k, k ≠ emp → nx k ≠ emp → μ (nx k) < μ k) (hm0 : ∀ k, k ≠ emp → μ emp < μ k) (hz : ∀ t, nx t = emp ∨ isKeyB (nx t) = true) :
    Calls Tryz.prog 101 #[.pointer (some ⟨mb, 0, none⟩), x.val, .func (.func 102) #[] #[.pointer (some ⟨tb, 0, none⟩), .pointer (some ⟨m2, 0, none⟩)]] w fun e w' =>
      e = (if (thr nx f (bKey (s.rg x.c)) x.n.toNat (fkey (bKey (s.rg x.b)) sv nx) a0).2.1 = 0 then .returned (.tuple #[]) else gu (stE (thr nx f (bKey (s.rg x.c)) x.n.toNat (fkey (bKey (s.rg x.b)) sv nx) a0).2.1)) ∧
      St (thr nx f (bKey (s.rg x.c)) x.n.toNat (fkey (bKey (s.rg x.b)) sv nx) a0).1 w' ∧
      (∃ v', MX w' B mb { s with lv := v' } td (lk ++ [(bKey (s.rg x.b), (thr nx f (bKey (s.rg x.c)) x.n.toNat (fkey (bKey (s.rg x.b)) sv nx) a0).2.2)]) M (kvV l)) ∧ Kept (fun k => Sx s mb M k ∨ T k) w w' := by
  obtain ⟨Ra, Re, Rl, hR⟩ : ∃ p q r, thr nx f (bKey (s.rg x.c)) x.n.toNat (fkey (bKey (s.rg x.b)) sv nx) a0 = (p, q, r) := ⟨_, _, _, rfl⟩
  have hRe := thr_err (nx := nx) (to := bKey (s.rg x.c)) hE.er x.n.toNat (fkey (bKey (s.rg x.b)) sv nx) a0
  have hRs := thr_size (f := f) hz (bKey_size hC) x.n.toNat (fkey (bKey (s.rg x.b)) sv nx) a0 (by unfold fkey; split <;> first | exact bKey_ok hB | exact hz _)
  rw [hR] at hRe hRs ⊢
  dsimp only at hRe hRs ⊢
  obtain ⟨op, a, b, c, n, vk, vi, vt⟩ := x
  dsimp only at b0 b1 c0 c1 n0 n1 hB hC hgo hab hse hR ⊢
  obtain ⟨N, rfl⟩ := Int.eq_ofNat_of_zero_le (show 0 ≤ n by omega)
  rw [Int.toNat_natCast] at hR
  have hN : 1 ≤ N ∧ N ≤ 64 := by omega
  have hfs := bKey_size hB
  have hts := bKey_size hC
  have hfk0 := bKey_ok hB
  have HBb := hid (fun W (hb : Below w0.heap.size w0 W) => bd_ok b (h.below hb) b0 b1 hB)
  have HBc := hid (fun W (hb : Below w0.heap.size w0 W) => bd_ok c (h.below hb) c0 c1 hC)
  generalize bKey (s.rg b) = frm at *
  generalize bKey (s.rg c) = to at *
  have HAB := hid hab
  have HSE := hid hse
  have HE := hid hE
  have HX := hid (And.intro h (And.intro hb0 (And.intro hS (And.intro hgo (And.intro hR (And.intro hfs (And.intro hts (And.intro hN hl))))))))
  have HFK : Hid (fkey frm sv nx = emp ∨ isKeyB (fkey frm sv nx) = true) := hid (by
    unfold fkey
    split
    · exact hfk0
    · exact hz _)
  have HRR := hid (And.intro hRe hRs)
  clear hRe hRs
  have HMU := hid (And.intro hμ (And.intro hm0 hz))
  obtain ⟨ev, hev⟩ : ∃ ev, ev = Value.func (.func 102) #[] #[.pointer (some ⟨tb, 0, none⟩), .pointer (some ⟨m2, 0, none⟩)] := ⟨_, rfl⟩
  obtain ⟨y4, y5⟩ := (show ((w.alloc (io op a b c N vk vi vt)).alloc (.cells #[ev] 171)).heap[w.heap.size]? = some (io op a b c N vk vi vt) ∧ ((w.alloc (io op a b c N vk vi vt)).alloc (.cells #[ev] 171)).heap[w.heap.size + 1]? = some (.cells #[ev] 171) from ⟨two1 w _ _, two2 w _ _⟩)
  have hbw : Below w.heap.size w ((w.alloc (io op a b c N vk vi vt)).alloc (.cells #[ev] 171)) := below2 w _ _
  have HW := hid (And.intro y4 (And.intro y5 hbw))
  have hb02 : Below w0.heap.size w0 ((w.alloc (io op a b c N vk vi vt)).alloc (.cells #[ev] 171)) := below_on hb0 hbw
  have HB0 := hid hb02
  obtain ⟨-, -, i2, i3, i4, -⟩ := cells8 y4
  generalize hPP : (fun (e : Ending) (w' : World) => e = (if Re = 0 then .returned (.tuple #[]) else gu (stE Re)) ∧ St Ra w' ∧ (∃ v', MX w' B mb { s with lv := v' } td (lk ++ [(frm, Rl)]) M (kvV l)) ∧ Kept (fun k => Sx s mb M k ∨ T k) w w') = PP
  have HPP := hid hPP
  clear h hb0 hS hgo hR hfs hts hfk0 hN hl hab hse hE hμ hm0 hz hB hC n0 n1 y4 y5 hbw hb02 hPP b0 b1 c0 c1
  have HS := hid (show ∀ W, Below ((w.alloc (io op a b c N vk vi vt)).alloc (.cells #[ev] 171)).heap.size ((w.alloc (io op a b c N vk vi vt)).alloc (.cells #[ev] 171)) W → W.cell? ⟨w.heap.size, 2, none⟩ = some (.int .i64 b) ∧ W.cell? ⟨w.heap.size, 3, none⟩ = some (.int .i64 c) from fun W hb => ⟨(hb.cell (World.block_lt_of_cell? _ _ i2)).trans i2, (hb.cell (World.block_lt_of_cell? _ _ i3)).trans i3⟩)
  clear i2 i3 i4
  unfold Ins.val
  dsimp only
  rw [← hev]
  have HEV := hid hev
  clear hev
  refine (callsIn_wide (n := 9)).1 (callsIn_of_wp_marks Tryz.func101 rfl trivial (wpIn_wide.2 ?_))
  simp only [Tryz.ntmps101, List.size_toArray, List.length_cons, List.length_nil, Nat.reduceAdd, Nat.reduceSub, Array.replicate_succ, Array.replicate_zero, List.push_toArray, List.append_toArray, List.nil_append, List.cons_append]
  go_wp2_with fail
  go_region_held3 (fun wx => wx.cell? ⟨w.heap.size, 2, none⟩ = some (.int .i64 b) ∧ wx.cell? ⟨w.heap.size, 3, none⟩ = some (.int .i64 c))
    (first | exact HS.out _ ((Below.refl _ _).drew) | exact HS.out _ H1.out | exact HS.out _ H2.out)
    (first
    | (go_at_call 104
       refine (HBb.out _ (HB0.out.drew)).mono ?_
       rintro e w1 ⟨rfl, hb1⟩
       have H1 := hid (show Below ((w.alloc (io op a b c N vk vi vt)).alloc (.cells #[ev] 171)).heap.size ((w.alloc (io op a b c N vk vi vt)).alloc (.cells #[ev] 171)) w1 from ⟨hb1.os, hb1.tape, hb1.output, hb1.size, hb1.block⟩)
       clear hb1 HBb)
    | (go_at_call 104
       refine (HBc.out _ (below_on HB0.out H1.out)).mono ?_
       rintro e w2 ⟨rfl, hb2⟩
       have H2 := hid (below_on H1.out hb2)
       clear hb2 HBc))
  go_upto_region 2 with fail
  go_cut [26] from 20 (fun v26 wc => v26 = .bool false ∧ Hid (Below ((w.alloc (io op a b c N vk vi vt)).alloc (.cells #[ev] 171)).heap.size ((w.alloc (io op a b c N vk vi vt)).alloc (.cells #[ev] 171)) wc))
  case first =>
    rcases HX.out.2.2.2.1 with e | e
    · have e1 := V.emp_eq e
      clear e
      go_wp2_with fail
      go_meet
      case rel => exact ⟨rfl, H2⟩
    · by_cases e2 : to = emp
      · have e1 := V.emp_eq e2
        clear e e2
        go_wp2_with fail
        go_meet
        case rel => exact ⟨rfl, H2⟩
      · have e1 := V.emp_ne e2
        have e3 : Op.bytesLess to.toList frm.toList = false := e
        clear e e2
        go_wp2_with fail
        go_meet
        case rel => exact ⟨rfl, H2⟩
  case rest =>
    obtain ⟨rfl, H3⟩ := hcut
    clear H1 H2
    rename World => wc
    go_wp2_with (
      go_at_call 128
      refine (keys_any mb frm to _).mono ?_
      rintro e w5 ⟨rfl, hkb, hb5⟩
      have H5 := hid (And.intro hkb hb5)
      clear hkb hb5)
    obtain ⟨hkb, hb5⟩ := H5.out
    clear H5
    have hb3 : Below wc.heap.size wc (((wc.alloc (Obj.cells #[Value.int IntKind.i64 0] 3)).alloc (Obj.cells #[Value.int IntKind.i64 0] 69)).alloc (Obj.cells #[Value.string to] 9)) := (three wc _ _ _).2.2.2
    obtain ⟨z8, z9, z10, -⟩ := three wc (Obj.cells #[Value.int IntKind.i64 0] 3) (Obj.cells #[Value.int IntKind.i64 0] 69) (Obj.cells #[Value.string to] 9)
    have hbc := below_on hb3 hb5
    have t4 := hp_below (hp_below HW.out.1 H3.out (hp_lt HW.out.1)) hbc (by have := hp_lt (hp_below HW.out.1 H3.out (hp_lt HW.out.1)); exact this)
    have t5 := hp_below (hp_below HW.out.2.1 H3.out (hp_lt HW.out.2.1)) hbc (by have := hp_lt (hp_below HW.out.2.1 H3.out (hp_lt HW.out.2.1)); exact this)
    have tb : TB w5 w.heap.size (w.heap.size + 1) wc.heap.size (wc.heap.size + 1) (wc.heap.size + 1 + 1) ⟨op, a, b, c, N, vk, vi, vt⟩ ev 0 0 to := ⟨t4, t5, hp_below z8 hb5 (hp_lt z8), hp_below z9 hb5 (hp_lt z9), hp_below z10 hb5 (hp_lt z10)⟩
    have hbw5 : Below w.heap.size w w5 := below_on (below_on HW.out.2.2 H3.out) hbc
    have hwc : w.heap.size + 2 ≤ wc.heap.size := by have := H3.out.size; simp at this; omega
    have hkb2 : KB w5 (wc.heap.size + 1 + 1 + 1 + 1) (wc.heap.size + 1 + 1 + 1) (wc.heap.size + 1 + 1 + 1 + 1 + 1) mb frm to := by simpa using hkb
    obtain ⟨z, hz⟩ : ∃ z, z = w.heap.size := ⟨_, rfl⟩
    have HZ := hid hz
    have OR : Hid (z ≤ w.heap.size ∧ z ≤ w.heap.size + 1 ∧ z ≤ wc.heap.size ∧ z ≤ wc.heap.size + 1 ∧ z ≤ wc.heap.size + 1 + 1 ∧ (wc.heap.size + 1 + 1 ≠ wc.heap.size + 1 + 1 + 1 + 1 ∧ wc.heap.size + 1 + 1 ≠ wc.heap.size + 1 + 1 + 1 + 1 + 1) ∧ z ≤ wc.heap.size + 1 + 1 + 1 + 1 ∧ z ≤ wc.heap.size + 1 + 1 + 1 ∧ z ≤ wc.heap.size + 1 + 1 + 1 + 1 + 1) := hid ⟨by omega, by omega, by omega, by omega, by omega, ⟨by omega, by omega⟩, by omega, by omega, by omega⟩
    clear hkb hb5 hb3 z8 z9 z10 hbc t4 t5 hwc H3 hz
    generalize wc.heap.size + 1 + 1 + 1 + 1 + 1 = g3 at *
    generalize wc.heap.size + 1 + 1 + 1 + 1 = g1 at *
    generalize wc.heap.size + 1 + 1 + 1 = g2 at *
    generalize wc.heap.size + 1 + 1 = b10 at *
    generalize wc.heap.size + 1 = b9 at *
    generalize wc.heap.size = b8 at *
    have H6 := hid (And.intro tb hkb2)
    have HB5 := hid hbw5
    clear tb hbw5 hkb2
    generalize hb5e : w.heap.size + 1 = b5 at *
    generalize hb4e : w.heap.size = b4 at OR H6 ⊢
    have HBE := hid (And.intro hb5e hb4e)
    clear hb5e hb4e HW HS HB0
    have hR1 := HX.out.2.2.2.2.1
    have KT : Hid (Kept T w w5) := hid ((Kept.ofBelow HB5.out).mono (fun _ _ e => e.elim))
    have HI : Hid (RangeKI w5.heap.size g1 g2 g3 mb frm to sv nx (TI w b4 b5 b8 b9 b10 g1 g2 g3 mb ⟨op, a, b, c, N, vk, vi, vt⟩ ev frm to nx f St T N (Ra, Re, Rl)) (TX w b4 b5 b8 b9 b10 ⟨op, a, b, c, N, vk, vi, vt⟩ ev St T (Ra, Re, Rl))) := hid (thrI HE.out HX.out.2.1 HB5.out.size HAB.out HSE.out)
    have hfk := HFK.out
    refine rangeK (g1 := g1) (g2 := g2) (g3 := g3) (mb := mb) (frm := frm) (to := to) (sv := sv) (nx := nx) rfl rfl (I := TI w b4 b5 b8 b9 b10 g1 g2 g3 mb ⟨op, a, b, c, N, vk, vi, vt⟩ ev frm to nx f St T N (Ra, Re, Rl)) (Ix := TX w b4 b5 b8 b9 b10 ⟨op, a, b, c, N, vk, vi, vt⟩ ev St T (Ra, Re, Rl)) HI.out μ HMU.out.1 HMU.out.2.1 (fun t => (HMU.out.2.2 t).elim (fun e => by rw [e]; exact Nat.zero_le _) (fun e => Nat.le_trans (isKey_size e).2 (by omega))) (by have := HX.out.2.2.2.2.2.1; omega)
      (fun w1 hb => ⟨a0, 0, HE.out.keep HX.out.2.2.1 ((Kept.ofBelow (below_on HB5.out hb)).mono (S' := fun _ => False) (fun _ _ e => e)) (fun _ e => e.elim), H6.out.1.below hb, H6.out.2.below hb, (Kept.ofBelow (below_on HB5.out hb)).mono (fun _ _ e => e.elim), HX.out.2.2.2.2.2.2.2.1.1, hfk, by rw [Nat.sub_zero]; exact hR1⟩)
      (fun k => { tmps := #[.pointer (some ⟨mb, 0, none⟩), .agg #[.int .i64 op, .int .i64 a, .int .i64 b, .int .i64 c, .int .i64 N, .int .i64 vk, .int .i64 vi, .string vt], ev, undef, .pointer (some ⟨b4, 0, none⟩), .pointer (some ⟨b5, 0, none⟩), .string frm, .string to, .pointer (some ⟨b8, 0, none⟩), .pointer (some ⟨b9, 0, none⟩), .pointer (some ⟨b10, 0, none⟩), .string k, .pointer (some ⟨mb, 0, none⟩), .pointer (some ⟨b4, 2, none⟩), .int .i64 b, .string frm, .pointer (some ⟨mb, 0, none⟩), .pointer (some ⟨b4, 3, none⟩), .int .i64 c, .string to, u20, u21, u22, u23, u24, u25, .bool false, .string to, .pointer (some ⟨mb, 0, none⟩), .string frm, .string to, keyIt g1 g2 g3, .string k, u33, u34, u35, u36, u37, u38, u39, u40, u41, u42, u43, u44, u45, u46, u47, u48, u49, u50, u51, u52], defers := [] }) ?assign ?body ?done ?stop
    case assign =>
      intro n l k W K hK
      gi_wp2
      exact hK
    case body =>
      rintro nf l' k W ⟨aa, nn, hSt, hTB, hKB, hKT, hnN, hkk, hthr⟩ hk
      have hz := HZ.out
      obtain ⟨o4, o5, o8, o9, o10, -, p1, p2, p3⟩ := OR.out
      obtain ⟨q1, q2, q3, q4, q5, q6, q7, q8, q9⟩ := hTB.ne
      have c8 := V.cells1 hTB.n
      have c5 := V.cells1 hTB.e
      rw [HEV.out] at c5
      have f8 : ∀ j, W.frozen? ⟨b8, j, none⟩ = false := fun j => free_of_block hTB.n
      have l8 := hp_lt hTB.n
      have l5 := hp_lt hTB.e
      have hN := HX.out.2.2.2.2.2.2.2.1
      have hwr : IntKind.i64.wrap ((nn : Int) + 1) = (nn : Int) + 1 := by rw [IntKind.wrap_i64]; omega
      have hTB1 := hTB.set8 ((nn : Int) + 1)
      have hk1 : Kept (fun j => j = b8) W (W.setCell ⟨b8, 0, none⟩ (.int .i64 ((nn : Int) + 1))) := (Kept.refl (fun j => j = b8) W).setCell (p := ⟨b8, 0, none⟩) (fun _ => rfl) _
      have hSt1 := HE.out.keep hSt hk1 (fun j e => by omega)
      have hKT1 : Kept T w (W.setCell ⟨b8, 0, none⟩ (.int .i64 ((nn : Int) + 1))) := hKT.trans hk1 (fun j hj e => by omega)
      have hKB1 : KB (W.setCell ⟨b8, 0, none⟩ (.int .i64 ((nn : Int) + 1))) g1 g2 g3 mb frm to := by
        refine ⟨V.hp_set hKB.f (fun e => ?_) _, V.hp_set hKB.m (fun e => ?_) _, V.hp_set hKB.t (fun e => ?_) _⟩
        · dsimp only at e; have := hKB.f; rw [e, hTB.n] at this; cases this
        · dsimp only at e; have := hKB.m; rw [e, hTB.n] at this; cases this
        · dsimp only at e; have := hKB.t; rw [e, hTB.n] at this; cases this
      have RUN := hid (HE.out.run k hSt1 (HE.out.b0 HX.out.2.1 hKT1) (hkk.resolve_left hk))
      obtain ⟨er, her⟩ : ∃ er, er = (f aa k).2 := ⟨_, rfl⟩
      obtain ⟨a2, ha2⟩ : ∃ a2, a2 = (f aa k).1 := ⟨_, rfl⟩
      rw [← her, ← ha2] at RUN
      obtain ⟨m, hm⟩ : ∃ m, N - nn = m + 1 := ⟨N - nn - 1, by omega⟩
      rw [hm] at hthr
      unfold thr at hthr
      rw [if_neg hk, ← her, ← ha2] at hthr
      have NT : ∀ j, w.heap.size ≤ j → ¬ T j := fun j hj e => by have := (HE.out.t j e).2; omega
      have TLT : ∀ j, T j → j < w5.heap.size := fun j e => by have h1 := (HE.out.t j e).2; have h2 := HB5.out.size; omega
      have A2 : Hid (∀ w2, St a2 w2 → Kept T (W.setCell ⟨b8, 0, none⟩ (.int .i64 ((nn : Int) + 1))) w2 → TB w2 b4 b5 b8 b9 b10 ⟨op, a, b, c, N, vk, vi, vt⟩ ev ((nn : Int) + 1) 0 to ∧ KB w2 g1 g2 g3 mb frm to ∧ Kept T w w2 ∧ KeepsFrom w5.heap.size W w2) := hid (fun w2 _ hk2 => ⟨hTB1.kept hk2 (NT _ (by omega)) (NT _ (by omega)) (NT _ (by omega)) (NT _ (by omega)) (NT _ (by omega)), ⟨hpk hKB1.f hk2 (NT _ (by omega)), hpk hKB1.m hk2 (NT _ (by omega)), hpk hKB1.t hk2 (NT _ (by omega))⟩, hKT1.trans hk2 (fun _ _ e => e), ((KeepsOthers.setCell W _ _).from _).trans (keepsFrom_kept hk2 TLT)⟩)
      generalize hPQ : RangeKPost w5.heap.size nx k (TI w b4 b5 b8 b9 b10 g1 g2 g3 mb ⟨op, a, b, c, N, vk, vi, vt⟩ ev frm to nx f St T N (Ra, Re, Rl)) (TX w b4 b5 b8 b9 b10 ⟨op, a, b, c, N, vk, vi, vt⟩ ev St T (Ra, Re, Rl)) W = PQ
      have HPQ := hid hPQ
      have HT := hid (And.intro hthr (And.intro hm (And.intro hnN (And.intro o8 (And.intro o9 (And.intro o10 (And.intro hz hkk)))))))
      clear hPQ hSt hTB hKB hKT hnN hkk hthr hTB1 hk1 hSt1 hKT1 hKB1 her ha2 NT TLT hm o4 o5 o8 o9 o10 p1 p2 p3 hk hz HPP
      have hNn : (N : Int) = N := rfl
      by_cases hlast : nn + 1 = N
      · have hb1 : ((nn : Int) + 1 == (N : Int)) = true := by simp; omega
        have HL := hid hlast
        clear hlast
        gi_wp2_with (
          refine ⟨trivial, fun hd => (by cases hd), ?_⟩
          gi_at_call 102
          refine (CallsIn.inRound l' (callsIn_wide.2 RUN.out)).mono ?_
          rintro e w2 ⟨rfl, hSt2, hkT⟩
          obtain ⟨t2, kb2, kt2, kf2⟩ := A2.out w2 hSt2 hkT
          have d8 := V.cells1 t2.n
          have d9 := V.cells1 t2.er
          have d10 := V.cells1 t2.l
          have g9 : ∀ j, w2.frozen? ⟨b9, j, none⟩ = false := fun j => free_of_block t2.er
          have g10 : ∀ j, w2.frozen? ⟨b10, j, none⟩ = false := fun j => free_of_block t2.l
          have d4 := (cells8 t2.i).2.2.2.2.1
          have m8 := hp_lt t2.n
          have m9 := hp_lt t2.er
          have m10 := hp_lt t2.l
          have m4 := hp_lt t2.i
          have H2' := hid (And.intro hSt2 (And.intro t2 (And.intro kb2 (And.intro kt2 kf2))))
          clear hSt2 hkT t2 kb2 kt2 kf2)
        rw [← HPQ.out]
        obtain ⟨hSt2, t2, kb2, kt2, kf2⟩ := H2'.out
        obtain ⟨hthr, hm, hnN, o8, o9, o10, hz, hkk⟩ := HT.out
        have k9 : Kept (fun j => j = b9 ∨ j = b10) w2 ((w2.setCell ⟨b9, 0, none⟩ (.int .i64 er)).setCell ⟨b10, 0, none⟩ (.string k)) := ((Kept.refl (fun j => j = b9 ∨ j = b10) w2).setCell (p := ⟨b9, 0, none⟩) (fun _ => .inl rfl) _).setCell (p := ⟨b10, 0, none⟩) (fun _ => .inr rfl) _
        rw [if_pos (.inl (by have := HL.out; omega))] at hthr
        injection hthr with hr1 hr2
        injection hr2 with hr2 hr3
        subst hr1 hr2 hr3
        exact ⟨rfl, (kf2.trans ((KeepsOthers.setCell _ _ _).from _)).trans ((KeepsOthers.setCell _ _ _).from _), _, HE.out.keep hSt2 k9 (fun j e => by omega), (t2.set9 _).set10 _, kt2.trans k9 (fun j hj e => by omega)⟩
      · have hb1 : ((nn : Int) + 1 == (N : Int)) = false := by simp; omega
        have hb2 : ¬ (nn : Int) + 1 = (N : Int) := by omega
        have HL := hid hlast
        clear hlast
        by_cases her : er = 0
        · subst her
          gi_wp2_with (
            refine ⟨trivial, fun hd => (by cases hd), ?_⟩
            gi_at_call 102
            refine (CallsIn.inRound l' (callsIn_wide.2 RUN.out)).mono ?_
            rintro e w2 ⟨rfl, hSt2, hkT⟩
            obtain ⟨t2, kb2, kt2, kf2⟩ := A2.out w2 hSt2 hkT
            have d8 := V.cells1 t2.n
            have d9 := V.cells1 t2.er
            have d10 := V.cells1 t2.l
            have g9 : ∀ j, w2.frozen? ⟨b9, j, none⟩ = false := fun j => free_of_block t2.er
            have g10 : ∀ j, w2.frozen? ⟨b10, j, none⟩ = false := fun j => free_of_block t2.l
            have d4 := (cells8 t2.i).2.2.2.2.1
            have m8 := hp_lt t2.n
            have m9 := hp_lt t2.er
            have m10 := hp_lt t2.l
            have m4 := hp_lt t2.i
            have H2' := hid (And.intro hSt2 (And.intro t2 (And.intro kb2 (And.intro kt2 kf2))))
            clear hSt2 hkT t2 kb2 kt2 kf2)
          rw [← HPQ.out]
          obtain ⟨hSt2, t2, kb2, kt2, kf2⟩ := H2'.out
          obtain ⟨hthr, hm, hnN, o8, o9, o10, hz, hkk⟩ := HT.out
          have k9 : Kept (fun j => j = b9) w2 (w2.setCell ⟨b9, 0, none⟩ (.int .i64 0)) := (Kept.refl (fun j => j = b9) w2).setCell (p := ⟨b9, 0, none⟩) (fun _ => rfl) _
          refine ⟨kf2.trans ((KeepsOthers.setCell _ _ _).from _), a2, nn + 1, HE.out.keep hSt2 k9 (fun j e => by omega), ?_, ?_, kt2.trans k9 (fun j hj e => by omega), by omega, HMU.out.2.2 k, ?_⟩
          · have h3 := t2.set9 0
            push_cast
            exact h3
          · refine ⟨V.hp_set kb2.f (fun e => ?_) _, V.hp_set kb2.m (fun e => ?_) _, V.hp_set kb2.t (fun e => ?_) _⟩
            · dsimp only at e; have := kb2.f; rw [e, t2.er] at this; cases this
            · dsimp only at e; have := kb2.m; rw [e, t2.er] at this; cases this
            · dsimp only at e; have := kb2.t; rw [e, t2.er] at this; cases this
          · rw [if_neg (fun h => h.elim (fun h => by have := HL.out; omega) (fun h => h rfl))] at hthr
            rw [show N - (nn + 1) = m by omega]
            exact hthr
        · have her2 : (er == 0) = false := by simpa using her
          have HER := hid her
          gi_wp2_with (
            refine ⟨trivial, fun hd => (by cases hd), ?_⟩
            gi_at_call 102
            refine (CallsIn.inRound l' (callsIn_wide.2 RUN.out)).mono ?_
            rintro e w2 ⟨rfl, hSt2, hkT⟩
            obtain ⟨t2, kb2, kt2, kf2⟩ := A2.out w2 hSt2 hkT
            have d8 := V.cells1 t2.n
            have d9 := V.cells1 t2.er
            have d10 := V.cells1 t2.l
            have g9 : ∀ j, w2.frozen? ⟨b9, j, none⟩ = false := fun j => free_of_block t2.er
            have g10 : ∀ j, w2.frozen? ⟨b10, j, none⟩ = false := fun j => free_of_block t2.l
            have d4 := (cells8 t2.i).2.2.2.2.1
            have m8 := hp_lt t2.n
            have m9 := hp_lt t2.er
            have m10 := hp_lt t2.l
            have m4 := hp_lt t2.i
            have H2' := hid (And.intro hSt2 (And.intro t2 (And.intro kb2 (And.intro kt2 kf2))))
            clear hSt2 hkT t2 kb2 kt2 kf2)
          rw [← HPQ.out]
          obtain ⟨hSt2, t2, kb2, kt2, kf2⟩ := H2'.out
          obtain ⟨hthr, hm, hnN, o8, o9, o10, hz, hkk⟩ := HT.out
          have k9 : Kept (fun j => j = b9 ∨ j = b10) w2 ((w2.setCell ⟨b9, 0, none⟩ (.int .i64 er)).setCell ⟨b10, 0, none⟩ (.string k)) := ((Kept.refl (fun j => j = b9 ∨ j = b10) w2).setCell (p := ⟨b9, 0, none⟩) (fun _ => .inl rfl) _).setCell (p := ⟨b10, 0, none⟩) (fun _ => .inr rfl) _
          rw [if_pos (.inr HER.out)] at hthr
          injection hthr with hr1 hr2
          injection hr2 with hr2 hr3
          subst hr1 hr2 hr3
          exact ⟨rfl, (kf2.trans ((KeepsOthers.setCell _ _ _).from _)).trans ((KeepsOthers.setCell _ _ _).from _), _, HE.out.keep hSt2 k9 (fun j e => by omega), (t2.set9 _).set10 _, kt2.trans k9 (fun j hj e => by omega)⟩
    case done =>
      rintro D W hD hI hK
      obtain ⟨n', s1, t1, k1⟩ := hI.toX
      have hb0W := HE.out.b0 HX.out.2.1 k1
      have hxW := HX.out.1.below hb0W
      have hlk := HX.out.2.2.2.2.2.2.2.2
      have c9 := V.cells1 t1.er
      have c10 := V.cells1 t1.l
      have LOOK := hid (look_m frm Rl hxW (by omega) (by have := HX.out.2.2.2.2.2.1; omega) (by have := HRR.out.2; omega))
      have hmb := HX.out.1.m.lt
      have hw0 := HX.out.2.1.size
      have hz := HZ.out
      obtain ⟨o4, o5, o8, o9, o10, -⟩ := OR.out
      have NL : ∀ j, w0.heap.size ≤ j → ¬ (j = mb ∨ s.lv.ownBlock = some j) := fun j hj e => by
        rcases e with e | e
        · omega
        · have := (HX.out.1.lk.lt j e).2; omega
      have H7 := hid (And.intro s1 (And.intro t1 (And.intro k1 (And.intro hD (And.intro hK (And.intro NL hb0W))))))
      have hw5 := HB5.out.size
      clear s1 t1 k1 hxW hlk hI NL hb0W hD hK
      simp only [Exit.inBlock, Exit.then]
      have HW6 : Hid (∀ v' w6, MX w6 B mb { s with lv := v' } td (lk ++ [(frm, Rl)]) M (kvV l) → Kept (fun k => k = mb ∨ s.lv.ownBlock = some k) W w6 → TB w6 b4 b5 b8 b9 b10 ⟨op, a, b, c, N, vk, vi, vt⟩ ev n' Re Rl ∧ w6.heap[D]? = some (.deferred (some [])) ∧ ∀ o, St Ra (w6.putObj D o) ∧ MX (w6.putObj D o) B mb { s with lv := v' } td (lk ++ [(frm, Rl)]) M (kvV l) ∧ Kept (fun k => Sx s mb M k ∨ T k) w (w6.putObj D o)) := hid (fun v' w6 hx6 hk6 => by
        obtain ⟨s1, t1, k1, hD, hK, NL, hb0W⟩ := H7.out
        have hK6 : w6.heap[D]? = some (.deferred (some [])) := hpk hK hk6 (NL D (by omega))
        refine ⟨t1.kept hk6 (NL _ (by omega)) (NL _ (by omega)) (NL _ (by omega)) (NL _ (by omega)) (NL _ (by omega)), hK6, fun o => ⟨?_, hx6.off (kept_put w6 D o) hK6, ?_⟩⟩
        · exact HE.out.keep (HE.out.look s1 hk6 (fun j e => by
            rcases e with e | e
            · omega
            · exact (HX.out.1.lk.lt j e).2)) (kept_put w6 D o) (fun j e => by omega)
        · refine ((k1.mono (S' := fun k => Sx s mb M k ∨ T k) (fun _ _ e => .inr e)).trans hk6 (fun j _ e => .inl ?_)).trans (kept_put w6 D o) (fun j hj e => by omega)
          rcases e with e | e
          · exact .inl e
          · exact .inr (.inr (.inr e)))
      by_cases hre : Re = 0
      · subst hre
        go_wp2_with (first
          | (go_at_call 92
             refine LOOK.out.mono ?_
             rintro e w6 ⟨rfl, ⟨v', hx6⟩, hb6, hk6⟩
             obtain ⟨t6, hK6, hfin⟩ := HW6.out v' w6 hx6 hk6
             have c9' := V.cells1 t6.er
             have H8 := hid (And.intro hK6 hfin)
             clear hx6 hb6 hk6 t6 hK6 hfin)
          | (go_at_call 120
             refine (insist_ok _).mono ?_
             rintro e w' ⟨rfl, e1⟩
             rw [e1]
             clear e1 w'))
        refine ⟨by simp, .inl ⟨_, _, rfl, run_takeDeferred H8.out.1, ?_⟩⟩
        refine ⟨_, results_none rfl _ _ _, ?_⟩
        rw [← HPP.out]
        obtain ⟨f1, f2, f3⟩ := H8.out.2 _
        exact ⟨by simp, f1, ⟨v', f2⟩, f3⟩
      · have INS := hid (fun W => insist_no Re (HRR.out.1.resolve_left hre) W)
        have HRE := hid hre
        clear hre
        go_wp2_with (first
          | (go_at_call 92
             refine LOOK.out.mono ?_
             rintro e w6 ⟨rfl, ⟨v', hx6⟩, hb6, hk6⟩
             obtain ⟨t6, hK6, hfin⟩ := HW6.out v' w6 hx6 hk6
             have c9' := V.cells1 t6.er
             have H8 := hid (And.intro hK6 hfin)
             clear hx6 hb6 hk6 t6 hK6 hfin)
          | (go_at_call 120
             refine (INS.out _).mono ?_
             rintro e w' ⟨rfl, e1⟩
             rw [e1]
             clear e1 w'))
        refine ⟨by simp, .inl ⟨_, _, rfl, run_takeDeferred H8.out.1, ?_⟩⟩
        show PP _ _
        rw [← HPP.out]
        obtain ⟨f1, f2, f3⟩ := H8.out.2 _
        exact ⟨by rw [if_neg HRE.out], f1, ⟨v', f2⟩, f3⟩
    case stop =>
      rintro D W hD hI hK
      obtain ⟨n', s1, t1, k1⟩ := hI
      have hb0W := HE.out.b0 HX.out.2.1 k1
      have hxW := HX.out.1.below hb0W
      have hlk := HX.out.2.2.2.2.2.2.2.2
      have c9 := V.cells1 t1.er
      have c10 := V.cells1 t1.l
      have LOOK := hid (look_m frm Rl hxW (by omega) (by have := HX.out.2.2.2.2.2.1; omega) (by have := HRR.out.2; omega))
      have hmb := HX.out.1.m.lt
      have hw0 := HX.out.2.1.size
      have hz := HZ.out
      obtain ⟨o4, o5, o8, o9, o10, -⟩ := OR.out
      have NL : ∀ j, w0.heap.size ≤ j → ¬ (j = mb ∨ s.lv.ownBlock = some j) := fun j hj e => by
        rcases e with e | e
        · omega
        · have := (HX.out.1.lk.lt j e).2; omega
      have H7 := hid (And.intro s1 (And.intro t1 (And.intro k1 (And.intro hD (And.intro hK (And.intro NL hb0W))))))
      have hw5 := HB5.out.size
      clear s1 t1 k1 hxW hlk NL hb0W hD hK
      simp only [Exit.inBlock, Exit.then]
      have HW6 : Hid (∀ v' w6, MX w6 B mb { s with lv := v' } td (lk ++ [(frm, Rl)]) M (kvV l) → Kept (fun k => k = mb ∨ s.lv.ownBlock = some k) W w6 → TB w6 b4 b5 b8 b9 b10 ⟨op, a, b, c, N, vk, vi, vt⟩ ev n' Re Rl ∧ w6.heap[D]? = some (.deferred (some [])) ∧ ∀ o, St Ra (w6.putObj D o) ∧ MX (w6.putObj D o) B mb { s with lv := v' } td (lk ++ [(frm, Rl)]) M (kvV l) ∧ Kept (fun k => Sx s mb M k ∨ T k) w (w6.putObj D o)) := hid (fun v' w6 hx6 hk6 => by
        obtain ⟨s1, t1, k1, hD, hK, NL, hb0W⟩ := H7.out
        have hK6 : w6.heap[D]? = some (.deferred (some [])) := hpk hK hk6 (NL D (by omega))
        refine ⟨t1.kept hk6 (NL _ (by omega)) (NL _ (by omega)) (NL _ (by omega)) (NL _ (by omega)) (NL _ (by omega)), hK6, fun o => ⟨?_, hx6.off (kept_put w6 D o) hK6, ?_⟩⟩
        · exact HE.out.keep (HE.out.look s1 hk6 (fun j e => by
            rcases e with e | e
            · omega
            · exact (HX.out.1.lk.lt j e).2)) (kept_put w6 D o) (fun j e => by omega)
        · refine ((k1.mono (S' := fun k => Sx s mb M k ∨ T k) (fun _ _ e => .inr e)).trans hk6 (fun j _ e => .inl ?_)).trans (kept_put w6 D o) (fun j hj e => by omega)
          rcases e with e | e
          · exact .inl e
          · exact .inr (.inr (.inr e)))
      by_cases hre : Re = 0
      · subst hre
        go_wp2_with (first
          | (go_at_call 92
             refine LOOK.out.mono ?_
             rintro e w6 ⟨rfl, ⟨v', hx6⟩, hb6, hk6⟩
             obtain ⟨t6, hK6, hfin⟩ := HW6.out v' w6 hx6 hk6
             have c9' := V.cells1 t6.er
             have H8 := hid (And.intro hK6 hfin)
             clear hx6 hb6 hk6 t6 hK6 hfin)
          | (go_at_call 120
             refine (insist_ok _).mono ?_
             rintro e w' ⟨rfl, e1⟩
             rw [e1]
             clear e1 w'))
        refine ⟨by simp, .inl ⟨_, _, rfl, run_takeDeferred H8.out.1, ?_⟩⟩
        refine ⟨_, results_none rfl _ _ _, ?_⟩
        rw [← HPP.out]
        obtain ⟨f1, f2, f3⟩ := H8.out.2 _
        exact ⟨by simp, f1, ⟨v', f2⟩, f3⟩
      · have INS := hid (fun W => insist_no Re (HRR.out.1.resolve_left hre) W)
        have HRE := hid hre
        clear hre
        go_wp2_with (first
          | (go_at_call 92
             refine LOOK.out.mono ?_
             rintro e w6 ⟨rfl, ⟨v', hx6⟩, hb6, hk6⟩
             obtain ⟨t6, hK6, hfin⟩ := HW6.out v' w6 hx6 hk6
             have c9' := V.cells1 t6.er
             have H8 := hid (And.intro hK6 hfin)
             clear hx6 hb6 hk6 t6 hK6 hfin)
          | (go_at_call 120
             refine (INS.out _).mono ?_
             rintro e w' ⟨rfl, e1⟩
             rw [e1]
             clear e1 w'))
        refine ⟨by simp, .inl ⟨_, _, rfl, run_takeDeferred H8.out.1, ?_⟩⟩
        show PP _ _
        rw [← HPP.out]
        obtain ⟨f1, f2, f3⟩ := H8.out.2 _
        exact ⟨by rw [if_neg HRE.out], f1, ⟨v', f2⟩, f3⟩
set_option maxHeartbeats 6400000 in
theorem through133 (x : Ins) (tb : Nat) (f : α → ByteArray → α × Int) (St : α → World → Prop) (T : Nat → Prop) (a0 : α) (nx : ByteArray → ByteArray) (sv : Vd) (h : MX w0 B mb s td lk M (kvV l)) (hb0 : Below w0.heap.size w0 w)
    (b0 : 0 ≤ x.b) (b1 : x.b < 16) (c0 : 0 ≤ x.c) (c1 : x.c < 16) (n0 : 1 ≤ x.n) (n1 : x.n ≤ 64) (hB : bErr (s.rg x.b) = 0) (hC : bErr (s.rg x.c) = 0) (hgo : bKey (s.rg x.c) = emp ∨ kl (bKey (s.rg x.c)) (bKey (s.rg x.b)) = false) (hl : lk.length ≤ 999)
    (hE : Each w0 w 103 #[.pointer (some ⟨tb, 0, none⟩)] f St T) (hS : St a0 w)
    (hab : ∀ W, Below w0.heap.size w0 W → ∀ text : ByteArray, text.size ≤ 1000 → Calls Tryz.prog 105 #[.pointer (some ⟨mb, 0, none⟩), .string text, .string (bKey (s.rg x.c))] W fun e w' => e = .returned (.string (nx text)) ∧ Below W.heap.size W w')
    (hse : ∀ W, Below w0.heap.size w0 W → Calls Tryz.prog 93 #[.pointer (some ⟨mb, 0, none⟩), .string (bKey (s.rg x.b))] W fun e w' => e = .returned sv.val ∧ Below W.heap.size W w')
    (μ : ByteArray → Nat) (hμ : ∀ k, k ≠ emp → nx k ≠ emp → μ (nx k) < μ k) (hm0 : ∀ k, k ≠ emp → μ emp < μ k) (hz : ∀ t, nx t = emp ∨ isKeyB (nx t) = true) :
    Calls Tryz.prog 101 #[.pointer (some ⟨mb, 0, none⟩), x.val, .func (.func 103) #[] #[.pointer (some ⟨tb, 0, none⟩)]] w fun e w' =>
      e = (if (thr nx f (bKey (s.rg x.c)) x.n.toNat (fkey (bKey (s.rg x.b)) sv nx) a0).2.1 = 0 then .returned (.tuple #[]) else gu (stE (thr nx f (bKey (s.rg x.c)) x.n.toNat (fkey (bKey (s.rg x.b)) sv nx) a0).2.1)) ∧
      St (thr nx f (bKey (s.rg x.c)) x.n.toNat (fkey (bKey (s.rg x.b)) sv nx) a0).1 w' ∧
      (∃ v', MX w' B mb { s with lv := v' } td (lk ++ [(bKey (s.rg x.b), (thr nx f (bKey (s.rg x.c)) x.n.toNat (fkey (bKey (s.rg x.b)) sv nx) a0).2.2)]) M (kvV l)) ∧ Kept (fun k => Sx s mb M k ∨ T k) w w' := by
  obtain ⟨Ra, Re, Rl, hR⟩ : ∃ p q r, thr nx f (bKey (s.rg x.c)) x.n.toNat (fkey (bKey (s.rg x.b)) sv nx) a0 = (p, q, r) := ⟨_, _, _, rfl⟩
  have hRe := thr_err (nx := nx) (to := bKey (s.rg x.c)) hE.er x.n.toNat (fkey (bKey (s.rg x.b)) sv nx) a0
  have hRs := thr_size (f := f) hz (bKey_size hC) x.n.toNat (fkey (bKey (s.rg x.b)) sv nx) a0 (by unfold fkey; split <;> first | exact bKey_ok hB | exact hz _)
  rw [hR] at hRe hRs ⊢
  dsimp only at hRe hRs ⊢
  obtain ⟨op, a, b, c, n, vk, vi, vt⟩ := x
  dsimp only at b0 b1 c0 c1 n0 n1 hB hC hgo hab hse hR ⊢
  obtain ⟨N, rfl⟩ := Int.eq_ofNat_of_zero_le (show 0 ≤ n by omega)
  rw [Int.toNat_natCast] at hR
  have hN : 1 ≤ N ∧ N ≤ 64 := by omega
  have hfs := bKey_size hB
  have hts := bKey_size hC
  have hfk0 := bKey_ok hB
  have HBb := hid (fun W (hb : Below w0.heap.size w0 W) => bd_ok b (h.below hb) b0 b1 hB)
  have HBc := hid (fun W (hb : Below w0.heap.size w0 W) => bd_ok c (h.below hb) c0 c1 hC)
  generalize bKey (s.rg b) = frm at *
  generalize bKey (s.rg c) = to at *
  have HAB := hid hab
  have HSE := hid hse
  have HE := hid hE
  have HX := hid (And.intro h (And.intro hb0 (And.intro hS (And.intro hgo (And.intro hR (And.intro hfs (And.intro hts (And.intro hN hl))))))))
  have HFK : Hid (fkey frm sv nx = emp ∨ isKeyB (fkey frm sv nx) = true) := hid (by
    unfold fkey
    split
    · exact hfk0
    · exact hz _)
  have HRR := hid (And.intro hRe hRs)
  clear hRe hRs
  have HMU := hid (And.intro hμ (And.intro hm0 hz))
  obtain ⟨ev, hev⟩ : ∃ ev, ev = Value.func (.func 103) #[] #[.pointer (some ⟨tb, 0, none⟩)] := ⟨_, rfl⟩
  obtain ⟨y4, y5⟩ := (show ((w.alloc (io op a b c N vk vi vt)).alloc (.cells #[ev] 171)).heap[w.heap.size]? = some (io op a b c N vk vi vt) ∧ ((w.alloc (io op a b c N vk vi vt)).alloc (.cells #[ev] 171)).heap[w.heap.size + 1]? = some (.cells #[ev] 171) from ⟨two1 w _ _, two2 w _ _⟩)
  have hbw : Below w.heap.size w ((w.alloc (io op a b c N vk vi vt)).alloc (.cells #[ev] 171)) := below2 w _ _
  have HW := hid (And.intro y4 (And.intro y5 hbw))
  have hb02 : Below w0.heap.size w0 ((w.alloc (io op a b c N vk vi vt)).alloc (.cells #[ev] 171)) := below_on hb0 hbw
  have HB0 := hid hb02
  obtain ⟨-, -, i2, i3, i4, -⟩ := cells8 y4
  generalize hPP : (fun (e : Ending) (w' : World) => e = (if Re = 0 then .returned (.tuple #[]) else gu (stE Re)) ∧ St Ra w' ∧ (∃ v', MX w' B mb { s with lv := v' } td (lk ++ [(frm, Rl)]) M (kvV l)) ∧ Kept (fun k => Sx s mb M k ∨ T k) w w') = PP
  have HPP := hid hPP
  clear h hb0 hS hgo hR hfs hts hfk0 hN hl hab hse hE hμ hm0 hz hB hC n0 n1 y4 y5 hbw hb02 hPP b0 b1 c0 c1
  have HS := hid (show ∀ W, Below ((w.alloc (io op a b c N vk vi vt)).alloc (.cells #[ev] 171)).heap.size ((w.alloc (io op a b c N vk vi vt)).alloc (.cells #[ev] 171)) W → W.cell? ⟨w.heap.size, 2, none⟩ = some (.int .i64 b) ∧ W.cell? ⟨w.heap.size, 3, none⟩ = some (.int .i64 c) from fun W hb => ⟨(hb.cell (World.block_lt_of_cell? _ _ i2)).trans i2, (hb.cell (World.block_lt_of_cell? _ _ i3)).trans i3⟩)
  clear i2 i3 i4
  unfold Ins.val
  dsimp only
  rw [← hev]
  have HEV := hid hev
  clear hev
  refine (callsIn_wide (n := 9)).1 (callsIn_of_wp_marks Tryz.func101 rfl trivial (wpIn_wide.2 ?_))
  simp only [Tryz.ntmps101, List.size_toArray, List.length_cons, List.length_nil, Nat.reduceAdd, Nat.reduceSub, Array.replicate_succ, Array.replicate_zero, List.push_toArray, List.append_toArray, List.nil_append, List.cons_append]
  go_wp2_with fail
  go_region_held3 (fun wx => wx.cell? ⟨w.heap.size, 2, none⟩ = some (.int .i64 b) ∧ wx.cell? ⟨w.heap.size, 3, none⟩ = some (.int .i64 c))
    (first | exact HS.out _ ((Below.refl _ _).drew) | exact HS.out _ H1.out | exact HS.out _ H2.out)
    (first
    | (go_at_call 104
       refine (HBb.out _ (HB0.out.drew)).mono ?_
       rintro e w1 ⟨rfl, hb1⟩
       have H1 := hid (show Below ((w.alloc (io op a b c N vk vi vt)).alloc (.cells #[ev] 171)).heap.size ((w.alloc (io op a b c N vk vi vt)).alloc (.cells #[ev] 171)) w1 from ⟨hb1.os, hb1.tape, hb1.output, hb1.size, hb1.block⟩)
       clear hb1 HBb)
    | (go_at_call 104
       refine (HBc.out _ (below_on HB0.out H1.out)).mono ?_
       rintro e w2 ⟨rfl, hb2⟩
       have H2 := hid (below_on H1.out hb2)
       clear hb2 HBc))
  go_upto_region 2 with fail
  go_cut [26] from 20 (fun v26 wc => v26 = .bool false ∧ Hid (Below ((w.alloc (io op a b c N vk vi vt)).alloc (.cells #[ev] 171)).heap.size ((w.alloc (io op a b c N vk vi vt)).alloc (.cells #[ev] 171)) wc))
  case first =>
    rcases HX.out.2.2.2.1 with e | e
    · have e1 := V.emp_eq e
      clear e
      go_wp2_with fail
      go_meet
      case rel => exact ⟨rfl, H2⟩
    · by_cases e2 : to = emp
      · have e1 := V.emp_eq e2
        clear e e2
        go_wp2_with fail
        go_meet
        case rel => exact ⟨rfl, H2⟩
      · have e1 := V.emp_ne e2
        have e3 : Op.bytesLess to.toList frm.toList = false := e
        clear e e2
        go_wp2_with fail
        go_meet
        case rel => exact ⟨rfl, H2⟩
  case rest =>
    obtain ⟨rfl, H3⟩ := hcut
    clear H1 H2
    rename World => wc
    go_wp2_with (
      go_at_call 128
      refine (keys_any mb frm to _).mono ?_
      rintro e w5 ⟨rfl, hkb, hb5⟩
      have H5 := hid (And.intro hkb hb5)
      clear hkb hb5)
    obtain ⟨hkb, hb5⟩ := H5.out
    clear H5
    have hb3 : Below wc.heap.size wc (((wc.alloc (Obj.cells #[Value.int IntKind.i64 0] 3)).alloc (Obj.cells #[Value.int IntKind.i64 0] 69)).alloc (Obj.cells #[Value.string to] 9)) := (three wc _ _ _).2.2.2
    obtain ⟨z8, z9, z10, -⟩ := three wc (Obj.cells #[Value.int IntKind.i64 0] 3) (Obj.cells #[Value.int IntKind.i64 0] 69) (Obj.cells #[Value.string to] 9)
    have hbc := below_on hb3 hb5
    have t4 := hp_below (hp_below HW.out.1 H3.out (hp_lt HW.out.1)) hbc (by have := hp_lt (hp_below HW.out.1 H3.out (hp_lt HW.out.1)); exact this)
    have t5 := hp_below (hp_below HW.out.2.1 H3.out (hp_lt HW.out.2.1)) hbc (by have := hp_lt (hp_below HW.out.2.1 H3.out (hp_lt HW.out.2.1)); exact this)
    have tb : TB w5 w.heap.size (w.heap.size + 1) wc.heap.size (wc.heap.size + 1) (wc.heap.size + 1 + 1) ⟨op, a, b, c, N, vk, vi, vt⟩ ev 0 0 to := ⟨t4, t5, hp_below z8 hb5 (hp_lt z8), hp_below z9 hb5 (hp_lt z9), hp_below z10 hb5 (hp_lt z10)⟩
    have hbw5 : Below w.heap.size w w5 := below_on (below_on HW.out.2.2 H3.out) hbc
    have hwc : w.heap.size + 2 ≤ wc.heap.size := by have := H3.out.size; simp at this; omega
    have hkb2 : KB w5 (wc.heap.size + 1 + 1 + 1 + 1) (wc.heap.size + 1 + 1 + 1) (wc.heap.size + 1 + 1 + 1 + 1 + 1) mb frm to := by simpa using hkb
    obtain ⟨z, hz⟩ : ∃ z, z = w.heap.size := ⟨_, rfl⟩
    have HZ := hid hz
    have OR : Hid (z ≤ w.heap.size ∧ z ≤ w.heap.size + 1 ∧ z ≤ wc.heap.size ∧ z ≤ wc.heap.size + 1 ∧ z ≤ wc.heap.size + 1 + 1 ∧ (wc.heap.size + 1 + 1 ≠ wc.heap.size + 1 + 1 + 1 + 1 ∧ wc.heap.size + 1 + 1 ≠ wc.heap.size + 1 + 1 + 1 + 1 + 1) ∧ z ≤ wc.heap.size + 1 + 1 + 1 + 1 ∧ z ≤ wc.heap.size + 1 + 1 + 1 ∧ z ≤ wc.heap.size + 1 + 1 + 1 + 1 + 1) := hid ⟨by omega, by omega, by omega, by omega, by omega, ⟨by omega, by omega⟩, by omega, by omega, by omega⟩
    clear hkb hb5 hb3 z8 z9 z10 hbc t4 t5 hwc H3 hz
    generalize wc.heap.size + 1 + 1 + 1 + 1 + 1 = g3 at *
    generalize wc.heap.size + 1 + 1 + 1 + 1 = g1 at *
    generalize wc.heap.size + 1 + 1 + 1 = g2 at *
    generalize wc.heap.size + 1 + 1 = b10 at *
    generalize wc.heap.size + 1 = b9 at *
    generalize wc.heap.size = b8 at *
    have H6 := hid (And.intro tb hkb2)
    have HB5 := hid hbw5
    clear tb hbw5 hkb2
    generalize hb5e : w.heap.size + 1 = b5 at *
    generalize hb4e : w.heap.size = b4 at OR H6 ⊢
    have HBE := hid (And.intro hb5e hb4e)
    clear hb5e hb4e HW HS HB0
    have hR1 := HX.out.2.2.2.2.1
    have KT : Hid (Kept T w w5) := hid ((Kept.ofBelow HB5.out).mono (fun _ _ e => e.elim))
    have HI : Hid (RangeKI w5.heap.size g1 g2 g3 mb frm to sv nx (TI w b4 b5 b8 b9 b10 g1 g2 g3 mb ⟨op, a, b, c, N, vk, vi, vt⟩ ev frm to nx f St T N (Ra, Re, Rl)) (TX w b4 b5 b8 b9 b10 ⟨op, a, b, c, N, vk, vi, vt⟩ ev St T (Ra, Re, Rl))) := hid (thrI HE.out HX.out.2.1 HB5.out.size HAB.out HSE.out)
    have hfk := HFK.out
    refine rangeK (g1 := g1) (g2 := g2) (g3 := g3) (mb := mb) (frm := frm) (to := to) (sv := sv) (nx := nx) rfl rfl (I := TI w b4 b5 b8 b9 b10 g1 g2 g3 mb ⟨op, a, b, c, N, vk, vi, vt⟩ ev frm to nx f St T N (Ra, Re, Rl)) (Ix := TX w b4 b5 b8 b9 b10 ⟨op, a, b, c, N, vk, vi, vt⟩ ev St T (Ra, Re, Rl)) HI.out μ HMU.out.1 HMU.out.2.1 (fun t => (HMU.out.2.2 t).elim (fun e => by rw [e]; exact Nat.zero_le _) (fun e => Nat.le_trans (isKey_size e).2 (by omega))) (by have := HX.out.2.2.2.2.2.1; omega)
      (fun w1 hb => ⟨a0, 0, HE.out.keep HX.out.2.2.1 ((Kept.ofBelow (below_on HB5.out hb)).mono (S' := fun _ => False) (fun _ _ e => e)) (fun _ e => e.elim), H6.out.1.below hb, H6.out.2.below hb, (Kept.ofBelow (below_on HB5.out hb)).mono (fun _ _ e => e.elim), HX.out.2.2.2.2.2.2.2.1.1, hfk, by rw [Nat.sub_zero]; exact hR1⟩)
      (fun k => { tmps := #[.pointer (some ⟨mb, 0, none⟩), .agg #[.int .i64 op, .int .i64 a, .int .i64 b, .int .i64 c, .int .i64 N, .int .i64 vk, .int .i64 vi, .string vt], ev, undef, .pointer (some ⟨b4, 0, none⟩), .pointer (some ⟨b5, 0, none⟩), .string frm, .string to, .pointer (some ⟨b8, 0, none⟩), .pointer (some ⟨b9, 0, none⟩), .pointer (some ⟨b10, 0, none⟩), .string k, .pointer (some ⟨mb, 0, none⟩), .pointer (some ⟨b4, 2, none⟩), .int .i64 b, .string frm, .pointer (some ⟨mb, 0, none⟩), .pointer (some ⟨b4, 3, none⟩), .int .i64 c, .string to, u20, u21, u22, u23, u24, u25, .bool false, .string to, .pointer (some ⟨mb, 0, none⟩), .string frm, .string to, keyIt g1 g2 g3, .string k, u33, u34, u35, u36, u37, u38, u39, u40, u41, u42, u43, u44, u45, u46, u47, u48, u49, u50, u51, u52], defers := [] }) ?assign ?body ?done ?stop
    case assign =>
      intro n l k W K hK
      gi_wp2
      exact hK
    case body =>
      rintro nf l' k W ⟨aa, nn, hSt, hTB, hKB, hKT, hnN, hkk, hthr⟩ hk
      have hz := HZ.out
      obtain ⟨o4, o5, o8, o9, o10, -, p1, p2, p3⟩ := OR.out
      obtain ⟨q1, q2, q3, q4, q5, q6, q7, q8, q9⟩ := hTB.ne
      have c8 := V.cells1 hTB.n
      have c5 := V.cells1 hTB.e
      rw [HEV.out] at c5
      have f8 : ∀ j, W.frozen? ⟨b8, j, none⟩ = false := fun j => free_of_block hTB.n
      have l8 := hp_lt hTB.n
      have l5 := hp_lt hTB.e
      have hN := HX.out.2.2.2.2.2.2.2.1
      have hwr : IntKind.i64.wrap ((nn : Int) + 1) = (nn : Int) + 1 := by rw [IntKind.wrap_i64]; omega
      have hTB1 := hTB.set8 ((nn : Int) + 1)
      have hk1 : Kept (fun j => j = b8) W (W.setCell ⟨b8, 0, none⟩ (.int .i64 ((nn : Int) + 1))) := (Kept.refl (fun j => j = b8) W).setCell (p := ⟨b8, 0, none⟩) (fun _ => rfl) _
      have hSt1 := HE.out.keep hSt hk1 (fun j e => by omega)
      have hKT1 : Kept T w (W.setCell ⟨b8, 0, none⟩ (.int .i64 ((nn : Int) + 1))) := hKT.trans hk1 (fun j hj e => by omega)
      have hKB1 : KB (W.setCell ⟨b8, 0, none⟩ (.int .i64 ((nn : Int) + 1))) g1 g2 g3 mb frm to := by
        refine ⟨V.hp_set hKB.f (fun e => ?_) _, V.hp_set hKB.m (fun e => ?_) _, V.hp_set hKB.t (fun e => ?_) _⟩
        · dsimp only at e; have := hKB.f; rw [e, hTB.n] at this; cases this
        · dsimp only at e; have := hKB.m; rw [e, hTB.n] at this; cases this
        · dsimp only at e; have := hKB.t; rw [e, hTB.n] at this; cases this
      have RUN := hid (HE.out.run k hSt1 (HE.out.b0 HX.out.2.1 hKT1) (hkk.resolve_left hk))
      obtain ⟨er, her⟩ : ∃ er, er = (f aa k).2 := ⟨_, rfl⟩
      obtain ⟨a2, ha2⟩ : ∃ a2, a2 = (f aa k).1 := ⟨_, rfl⟩
      rw [← her, ← ha2] at RUN
      obtain ⟨m, hm⟩ : ∃ m, N - nn = m + 1 := ⟨N - nn - 1, by omega⟩
      rw [hm] at hthr
      unfold thr at hthr
      rw [if_neg hk, ← her, ← ha2] at hthr
      have NT : ∀ j, w.heap.size ≤ j → ¬ T j := fun j hj e => by have := (HE.out.t j e).2; omega
      have TLT : ∀ j, T j → j < w5.heap.size := fun j e => by have h1 := (HE.out.t j e).2; have h2 := HB5.out.size; omega
      have A2 : Hid (∀ w2, St a2 w2 → Kept T (W.setCell ⟨b8, 0, none⟩ (.int .i64 ((nn : Int) + 1))) w2 → TB w2 b4 b5 b8 b9 b10 ⟨op, a, b, c, N, vk, vi, vt⟩ ev ((nn : Int) + 1) 0 to ∧ KB w2 g1 g2 g3 mb frm to ∧ Kept T w w2 ∧ KeepsFrom w5.heap.size W w2) := hid (fun w2 _ hk2 => ⟨hTB1.kept hk2 (NT _ (by omega)) (NT _ (by omega)) (NT _ (by omega)) (NT _ (by omega)) (NT _ (by omega)), ⟨hpk hKB1.f hk2 (NT _ (by omega)), hpk hKB1.m hk2 (NT _ (by omega)), hpk hKB1.t hk2 (NT _ (by omega))⟩, hKT1.trans hk2 (fun _ _ e => e), ((KeepsOthers.setCell W _ _).from _).trans (keepsFrom_kept hk2 TLT)⟩)
      generalize hPQ : RangeKPost w5.heap.size nx k (TI w b4 b5 b8 b9 b10 g1 g2 g3 mb ⟨op, a, b, c, N, vk, vi, vt⟩ ev frm to nx f St T N (Ra, Re, Rl)) (TX w b4 b5 b8 b9 b10 ⟨op, a, b, c, N, vk, vi, vt⟩ ev St T (Ra, Re, Rl)) W = PQ
      have HPQ := hid hPQ
      have HT := hid (And.intro hthr (And.intro hm (And.intro hnN (And.intro o8 (And.intro o9 (And.intro o10 (And.intro hz hkk)))))))
      clear hPQ hSt hTB hKB hKT hnN hkk hthr hTB1 hk1 hSt1 hKT1 hKB1 her ha2 NT TLT hm o4 o5 o8 o9 o10 p1 p2 p3 hk hz HPP
      have hNn : (N : Int) = N := rfl
      by_cases hlast : nn + 1 = N
      · have hb1 : ((nn : Int) + 1 == (N : Int)) = true := by simp; omega
        have HL := hid hlast
        clear hlast
        gi_wp2_with (
          refine ⟨trivial, fun hd => (by cases hd), ?_⟩
          gi_at_call 103
          refine (CallsIn.inRound l' (callsIn_wide.2 RUN.out)).mono ?_
          rintro e w2 ⟨rfl, hSt2, hkT⟩
          obtain ⟨t2, kb2, kt2, kf2⟩ := A2.out w2 hSt2 hkT
          have d8 := V.cells1 t2.n
          have d9 := V.cells1 t2.er
          have d10 := V.cells1 t2.l
          have g9 : ∀ j, w2.frozen? ⟨b9, j, none⟩ = false := fun j => free_of_block t2.er
          have g10 : ∀ j, w2.frozen? ⟨b10, j, none⟩ = false := fun j => free_of_block t2.l
          have d4 := (cells8 t2.i).2.2.2.2.1
          have m8 := hp_lt t2.n
          have m9 := hp_lt t2.er
          have m10 := hp_lt t2.l
          have m4 := hp_lt t2.i
          have H2' := hid (And.intro hSt2 (And.intro t2 (And.intro kb2 (And.intro kt2 kf2))))
          clear hSt2 hkT t2 kb2 kt2 kf2)
        rw [← HPQ.out]
        obtain ⟨hSt2, t2, kb2, kt2, kf2⟩ := H2'.out
        obtain ⟨hthr, hm, hnN, o8, o9, o10, hz, hkk⟩ := HT.out
        have k9 : Kept (fun j => j = b9 ∨ j = b10) w2 ((w2.setCell ⟨b9, 0, none⟩ (.int .i64 er)).setCell ⟨b10, 0, none⟩ (.string k)) := ((Kept.refl (fun j => j = b9 ∨ j = b10) w2).setCell (p := ⟨b9, 0, none⟩) (fun _ => .inl rfl) _).setCell (p := ⟨b10, 0, none⟩) (fun _ => .inr rfl) _
        rw [if_pos (.inl (by have := HL.out; omega))] at hthr
        injection hthr with hr1 hr2
        injection hr2 with hr2 hr3
        subst hr1 hr2 hr3
        exact ⟨rfl, (kf2.trans ((KeepsOthers.setCell _ _ _).from _)).trans ((KeepsOthers.setCell _ _ _).from _), _, HE.out.keep hSt2 k9 (fun j e => by omega), (t2.set9 _).set10 _, kt2.trans k9 (fun j hj e => by omega)⟩
      · have hb1 : ((nn : Int) + 1 == (N : Int)) = false := by simp; omega
        have hb2 : ¬ (nn : Int) + 1 = (N : Int) := by omega
        have HL := hid hlast
        clear hlast
        by_cases her : er = 0
        · subst her
          gi_wp2_with (
            refine ⟨trivial, fun hd => (by cases hd), ?_⟩
            gi_at_call 103
            refine (CallsIn.inRound l' (callsIn_wide.2 RUN.out)).mono ?_
            rintro e w2 ⟨rfl, hSt2, hkT⟩
            obtain ⟨t2, kb2, kt2, kf2⟩ := A2.out w2 hSt2 hkT
            have d8 := V.cells1 t2.n
            have d9 := V.cells1 t2.er
            have d10 := V.cells1 t2.l
            have g9 : ∀ j, w2.frozen? ⟨b9, j, none⟩ = false := fun j => free_of_block t2.er
            have g10 : ∀ j, w2.frozen? ⟨b10, j, none⟩ = false := fun j => free_of_block t2.l
            have d4 := (cells8 t2.i).2.2.2.2.1
            have m8 := hp_lt t2.n
            have m9 := hp_lt t2.er
            have m10 := hp_lt t2.l
            have m4 := hp_lt t2.i
            have H2' := hid (And.intro hSt2 (And.intro t2 (And.intro kb2 (And.intro kt2 kf2))))
            clear hSt2 hkT t2 kb2 kt2 kf2)
          rw [← HPQ.out]
          obtain ⟨hSt2, t2, kb2, kt2, kf2⟩ := H2'.out
          obtain ⟨hthr, hm, hnN, o8, o9, o10, hz, hkk⟩ := HT.out
          have k9 : Kept (fun j => j = b9) w2 (w2.setCell ⟨b9, 0, none⟩ (.int .i64 0)) := (Kept.refl (fun j => j = b9) w2).setCell (p := ⟨b9, 0, none⟩) (fun _ => rfl) _
          refine ⟨kf2.trans ((KeepsOthers.setCell _ _ _).from _), a2, nn + 1, HE.out.keep hSt2 k9 (fun j e => by omega), ?_, ?_, kt2.trans k9 (fun j hj e => by omega), by omega, HMU.out.2.2 k, ?_⟩
          · have h3 := t2.set9 0
            push_cast
            exact h3
          · refine ⟨V.hp_set kb2.f (fun e => ?_) _, V.hp_set kb2.m (fun e => ?_) _, V.hp_set kb2.t (fun e => ?_) _⟩
            · dsimp only at e; have := kb2.f; rw [e, t2.er] at this; cases this
            · dsimp only at e; have := kb2.m; rw [e, t2.er] at this; cases this
            · dsimp only at e; have := kb2.t; rw [e, t2.er] at this; cases this
          · rw [if_neg (fun h => h.elim (fun h => by have := HL.out; omega) (fun h => h rfl))] at hthr
            rw [show N - (nn + 1) = m by omega]
            exact hthr
        · have her2 : (er == 0) = false := by simpa using her
          have HER := hid her
          gi_wp2_with (
            refine ⟨trivial, fun hd => (by cases hd), ?_⟩
            gi_at_call 103
            refine (CallsIn.inRound l' (callsIn_wide.2 RUN.out)).mono ?_
            rintro e w2 ⟨rfl, hSt2, hkT⟩
            obtain ⟨t2, kb2, kt2, kf2⟩ := A2.out w2 hSt2 hkT
            have d8 := V.cells1 t2.n
            have d9 := V.cells1 t2.er
            have d10 := V.cells1 t2.l
            have g9 : ∀ j, w2.frozen? ⟨b9, j, none⟩ = false := fun j => free_of_block t2.er
            have g10 : ∀ j, w2.frozen? ⟨b10, j, none⟩ = false := fun j => free_of_block t2.l
            have d4 := (cells8 t2.i).2.2.2.2.1
            have m8 := hp_lt t2.n
            have m9 := hp_lt t2.er
            have m10 := hp_lt t2.l
            have m4 := hp_lt t2.i
            have H2' := hid (And.intro hSt2 (And.intro t2 (And.intro kb2 (And.intro kt2 kf2))))
            clear hSt2 hkT t2 kb2 kt2 kf2)
          rw [← HPQ.out]
          obtain ⟨hSt2, t2, kb2, kt2, kf2⟩ := H2'.out
          obtain ⟨hthr, hm, hnN, o8, o9, o10, hz, hkk⟩ := HT.out
          have k9 : Kept (fun j => j = b9 ∨ j = b10) w2 ((w2.setCell ⟨b9, 0, none⟩ (.int .i64 er)).setCell ⟨b10, 0, none⟩ (.string k)) := ((Kept.refl (fun j => j = b9 ∨ j = b10) w2).setCell (p := ⟨b9, 0, none⟩) (fun _ => .inl rfl) _).setCell (p := ⟨b10, 0, none⟩) (fun _ => .inr rfl) _
          rw [if_pos (.inr HER.out)] at hthr
          injection hthr with hr1 hr2
          injection hr2 with hr2 hr3
          subst hr1 hr2 hr3
          exact ⟨rfl, (kf2.trans ((KeepsOthers.setCell _ _ _).from _)).trans ((KeepsOthers.setCell _ _ _).from _), _, HE.out.keep hSt2 k9 (fun j e => by omega), (t2.set9 _).set10 _, kt2.trans k9 (fun j hj e => by omega)⟩
    case done =>
      rintro D W hD hI hK
      obtain ⟨n', s1, t1, k1⟩ := hI.toX
      have hb0W := HE.out.b0 HX.out.2.1 k1
      have hxW := HX.out.1.below hb0W
      have hlk := HX.out.2.2.2.2.2.2.2.2
      have c9 := V.cells1 t1.er
      have c10 := V.cells1 t1.l
      have LOOK := hid (look_m frm Rl hxW (by omega) (by have := HX.out.2.2.2.2.2.1; omega) (by have := HRR.out.2; omega))
      have hmb := HX.out.1.m.lt
      have hw0 := HX.out.2.1.size
      have hz := HZ.out
      obtain ⟨o4, o5, o8, o9, o10, -⟩ := OR.out
      have NL : ∀ j, w0.heap.size ≤ j → ¬ (j = mb ∨ s.lv.ownBlock = some j) := fun j hj e => by
        rcases e with e | e
        · omega
        · have := (HX.out.1.lk.lt j e).2; omega
      have H7 := hid (And.intro s1 (And.intro t1 (And.intro k1 (And.intro hD (And.intro hK (And.intro NL hb0W))))))
      have hw5 := HB5.out.size
      clear s1 t1 k1 hxW hlk hI NL hb0W hD hK
      simp only [Exit.inBlock, Exit.then]
      have HW6 : Hid (∀ v' w6, MX w6 B mb { s with lv := v' } td (lk ++ [(frm, Rl)]) M (kvV l) → Kept (fun k => k = mb ∨ s.lv.ownBlock = some k) W w6 → TB w6 b4 b5 b8 b9 b10 ⟨op, a, b, c, N, vk, vi, vt⟩ ev n' Re Rl ∧ w6.heap[D]? = some (.deferred (some [])) ∧ ∀ o, St Ra (w6.putObj D o) ∧ MX (w6.putObj D o) B mb { s with lv := v' } td (lk ++ [(frm, Rl)]) M (kvV l) ∧ Kept (fun k => Sx s mb M k ∨ T k) w (w6.putObj D o)) := hid (fun v' w6 hx6 hk6 => by
        obtain ⟨s1, t1, k1, hD, hK, NL, hb0W⟩ := H7.out
        have hK6 : w6.heap[D]? = some (.deferred (some [])) := hpk hK hk6 (NL D (by omega))
        refine ⟨t1.kept hk6 (NL _ (by omega)) (NL _ (by omega)) (NL _ (by omega)) (NL _ (by omega)) (NL _ (by omega)), hK6, fun o => ⟨?_, hx6.off (kept_put w6 D o) hK6, ?_⟩⟩
        · exact HE.out.keep (HE.out.look s1 hk6 (fun j e => by
            rcases e with e | e
            · omega
            · exact (HX.out.1.lk.lt j e).2)) (kept_put w6 D o) (fun j e => by omega)
        · refine ((k1.mono (S' := fun k => Sx s mb M k ∨ T k) (fun _ _ e => .inr e)).trans hk6 (fun j _ e => .inl ?_)).trans (kept_put w6 D o) (fun j hj e => by omega)
          rcases e with e | e
          · exact .inl e
          · exact .inr (.inr (.inr e)))
      by_cases hre : Re = 0
      · subst hre
        go_wp2_with (first
          | (go_at_call 92
             refine LOOK.out.mono ?_
             rintro e w6 ⟨rfl, ⟨v', hx6⟩, hb6, hk6⟩
             obtain ⟨t6, hK6, hfin⟩ := HW6.out v' w6 hx6 hk6
             have c9' := V.cells1 t6.er
             have H8 := hid (And.intro hK6 hfin)
             clear hx6 hb6 hk6 t6 hK6 hfin)
          | (go_at_call 120
             refine (insist_ok _).mono ?_
             rintro e w' ⟨rfl, e1⟩
             rw [e1]
             clear e1 w'))
        refine ⟨by simp, .inl ⟨_, _, rfl, run_takeDeferred H8.out.1, ?_⟩⟩
        refine ⟨_, results_none rfl _ _ _, ?_⟩
        rw [← HPP.out]
        obtain ⟨f1, f2, f3⟩ := H8.out.2 _
        exact ⟨by simp, f1, ⟨v', f2⟩, f3⟩
      · have INS := hid (fun W => insist_no Re (HRR.out.1.resolve_left hre) W)
        have HRE := hid hre
        clear hre
        go_wp2_with (first
          | (go_at_call 92
             refine LOOK.out.mono ?_
             rintro e w6 ⟨rfl, ⟨v', hx6⟩, hb6, hk6⟩
             obtain ⟨t6, hK6, hfin⟩ := HW6.out v' w6 hx6 hk6
             have c9' := V.cells1 t6.er
             have H8 := hid (And.intro hK6 hfin)
             clear hx6 hb6 hk6 t6 hK6 hfin)
          | (go_at_call 120
             refine (INS.out _).mono ?_
             rintro e w' ⟨rfl, e1⟩
             rw [e1]
             clear e1 w'))
        refine ⟨by simp, .inl ⟨_, _, rfl, run_takeDeferred H8.out.1, ?_⟩⟩
        show PP _ _
        rw [← HPP.out]
        obtain ⟨f1, f2, f3⟩ := H8.out.2 _
        exact ⟨by rw [if_neg HRE.out], f1, ⟨v', f2⟩, f3⟩
    case stop =>
      rintro D W hD hI hK
      obtain ⟨n', s1, t1, k1⟩ := hI
      have hb0W := HE.out.b0 HX.out.2.1 k1
      have hxW := HX.out.1.below hb0W
      have hlk := HX.out.2.2.2.2.2.2.2.2
      have c9 := V.cells1 t1.er
      have c10 := V.cells1 t1.l
      have LOOK := hid (look_m frm Rl hxW (by omega) (by have := HX.out.2.2.2.2.2.1; omega) (by have := HRR.out.2; omega))
      have hmb := HX.out.1.m.lt
      have hw0 := HX.out.2.1.size
      have hz := HZ.out
      obtain ⟨o4, o5, o8, o9, o10, -⟩ := OR.out
      have NL : ∀ j, w0.heap.size ≤ j → ¬ (j = mb ∨ s.lv.ownBlock = some j) := fun j hj e => by
        rcases e with e | e
        · omega
        · have := (HX.out.1.lk.lt j e).2; omega
      have H7 := hid (And.intro s1 (And.intro t1 (And.intro k1 (And.intro hD (And.intro hK (And.intro NL hb0W))))))
      have hw5 := HB5.out.size
      clear s1 t1 k1 hxW hlk NL hb0W hD hK
      simp only [Exit.inBlock, Exit.then]
      have HW6 : Hid (∀ v' w6, MX w6 B mb { s with lv := v' } td (lk ++ [(frm, Rl)]) M (kvV l) → Kept (fun k => k = mb ∨ s.lv.ownBlock = some k) W w6 → TB w6 b4 b5 b8 b9 b10 ⟨op, a, b, c, N, vk, vi, vt⟩ ev n' Re Rl ∧ w6.heap[D]? = some (.deferred (some [])) ∧ ∀ o, St Ra (w6.putObj D o) ∧ MX (w6.putObj D o) B mb { s with lv := v' } td (lk ++ [(frm, Rl)]) M (kvV l) ∧ Kept (fun k => Sx s mb M k ∨ T k) w (w6.putObj D o)) := hid (fun v' w6 hx6 hk6 => by
        obtain ⟨s1, t1, k1, hD, hK, NL, hb0W⟩ := H7.out
        have hK6 : w6.heap[D]? = some (.deferred (some [])) := hpk hK hk6 (NL D (by omega))
        refine ⟨t1.kept hk6 (NL _ (by omega)) (NL _ (by omega)) (NL _ (by omega)) (NL _ (by omega)) (NL _ (by omega)), hK6, fun o => ⟨?_, hx6.off (kept_put w6 D o) hK6, ?_⟩⟩
        · exact HE.out.keep (HE.out.look s1 hk6 (fun j e => by
            rcases e with e | e
            · omega
            · exact (HX.out.1.lk.lt j e).2)) (kept_put w6 D o) (fun j e => by omega)
        · refine ((k1.mono (S' := fun k => Sx s mb M k ∨ T k) (fun _ _ e => .inr e)).trans hk6 (fun j _ e => .inl ?_)).trans (kept_put w6 D o) (fun j hj e => by omega)
          rcases e with e | e
          · exact .inl e
          · exact .inr (.inr (.inr e)))
      by_cases hre : Re = 0
      · subst hre
        go_wp2_with (first
          | (go_at_call 92
             refine LOOK.out.mono ?_
             rintro e w6 ⟨rfl, ⟨v', hx6⟩, hb6, hk6⟩
             obtain ⟨t6, hK6, hfin⟩ := HW6.out v' w6 hx6 hk6
             have c9' := V.cells1 t6.er
             have H8 := hid (And.intro hK6 hfin)
             clear hx6 hb6 hk6 t6 hK6 hfin)
          | (go_at_call 120
             refine (insist_ok _).mono ?_
             rintro e w' ⟨rfl, e1⟩
             rw [e1]
             clear e1 w'))
        refine ⟨by simp, .inl ⟨_, _, rfl, run_takeDeferred H8.out.1, ?_⟩⟩
        refine ⟨_, results_none rfl _ _ _, ?_⟩
        rw [← HPP.out]
        obtain ⟨f1, f2, f3⟩ := H8.out.2 _
        exact ⟨by simp, f1, ⟨v', f2⟩, f3⟩
      · have INS := hid (fun W => insist_no Re (HRR.out.1.resolve_left hre) W)
        have HRE := hid hre
        clear hre
        go_wp2_with (first
          | (go_at_call 92
             refine LOOK.out.mono ?_
             rintro e w6 ⟨rfl, ⟨v', hx6⟩, hb6, hk6⟩
             obtain ⟨t6, hK6, hfin⟩ := HW6.out v' w6 hx6 hk6
             have c9' := V.cells1 t6.er
             have H8 := hid (And.intro hK6 hfin)
             clear hx6 hb6 hk6 t6 hK6 hfin)
          | (go_at_call 120
             refine (INS.out _).mono ?_
             rintro e w' ⟨rfl, e1⟩
             rw [e1]
             clear e1 w'))
        refine ⟨by simp, .inl ⟨_, _, rfl, run_takeDeferred H8.out.1, ?_⟩⟩
        show PP _ _
        rw [← HPP.out]
        obtain ⟨f1, f2, f3⟩ := H8.out.2 _
        exact ⟨by rw [if_neg HRE.out], f1, ⟨v', f2⟩, f3⟩
end
end Go.Proofs.YthcoigbkdbkojabGreat
