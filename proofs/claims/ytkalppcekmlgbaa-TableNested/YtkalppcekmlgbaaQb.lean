import Derived.Test.YtkalppcekmlgbaaQa
namespace Go.Proofs.Ytkalppcekmlgbaa
open Go.RowKit

theorem Try.info64 : (Try.prog.info? 64).map (fun i => (i.zero, i.size, i.bytes)) = some (some (.agg #[.string ⟨#[]⟩, .int .i64 0]), 2, 24) := by kernel_rfl

/-- Is the key there? -/
def has (key : ByteArray) (l : List Pr) : Bool := match l[plc key l]? with | some e => decide (e.1 = key) | none => false
def bput (key : ByteArray) (n : Int) (l : List Pr) : List Pr := if has key l then l.set (plc key l) (key, n) else l.take (plc key l) ++ (key, n) :: l.drop (plc key l)
def bcut (key : ByteArray) (l : List Pr) : List Pr := if has key l then l.take (plc key l) ++ l.drop (plc key l + 1) else l

/-- What put and cut leave. -/
structure BkP (B : Nat) (w w' : World) (b : Nat) (vl vl' : Value) (l' : List Pr) : Prop where
  bk : Bk B w' b vl' l'
  kp : Kept (fun k => k = b ∨ vl.ownBlock = some k) w w'
  ow : vl'.ownBlock = vl.ownBlock ∨ vl'.ownBlock = none ∨ ∃ k, w.heap.size ≤ k ∧ vl'.ownBlock = some k

theorem flat_set {α : Type} (f : α → List Value) (x : α) : ∀ (l : List α) (i : Nat), (hf : ∀ y, (f y).length = 2) → i < l.length → ∀ (v : Value), (∀ y, l[i]? = some y → f x = (f y).set 1 v) → (l.set i x).flatMap f = (l.flatMap f).set (i * 2 + 1) v
  | [], i, _, h, _, _ => by simp at h
  | a :: l, 0, hf, _, v, h => by
    have := h a rfl
    simp only [List.set_cons_zero, List.flatMap_cons, this]
    rw [List.set_append_left _ _ (by rw [hf]; omega)]
  | a :: l, i + 1, hf, hl, v, h => by
    have ih := flat_set f x l i hf (by simpa using hl) v (fun y hy => h y (by simpa using hy))
    simp only [List.set_cons_succ, List.flatMap_cons, ih]
    rw [List.set_append_right _ _ (by rw [hf]; omega), hf]
    congr 2
    omega

set_option maxRecDepth 100000 in
set_option maxHeartbeats 2000000 in
theorem bput_has (B b : Nat) (vl : Value) (l : List Pr) (key : ByteArray) (n : Int) (w : World) (h : Bk B w b vl l) (hl : l.length ≤ 1000000) (hh : has key l = true) :
    Calls Try.prog 31 #[.pointer (some ⟨b, 0, none⟩), .string key, .int .i64 n] w fun x w' => ∃ vl', x = .returned (bgetV key l) ∧ BkP B w w' b vl vl' (bput key n l) := by
  have P := hid (place_any B b vl l key w h hl)
  have c0 := cells1 h.blk
  have hpl := plc_le key l
  obtain ⟨i, hi⟩ : ∃ i, plc key l = i := ⟨_, rfl⟩
  rw [hi] at P hpl
  unfold has at hh
  rw [hi] at hh
  by_cases hlt : i < l.length
  · rw [List.getElem?_eq_getElem hlt] at hh
    have hk : l[i].1 = key := by simpa using hh
    rcases h.shape with ⟨rfl, rfl⟩ | ⟨g, cap, rfl, hc, _⟩
    · simp at hlt
    · obtain ⟨d0, d1⟩ := h.cells i hlt
      have HR := hid (show bgetV key l = .tuple #[.int .i64 l[i].2, .bool true] by rw [bgetV, hi, List.getElem?_eq_getElem hlt]; simp [hk])
      have HL := hid (show bput key n l = l.set i (key, n) by rw [bput, has, hi, List.getElem?_eq_getElem hlt]; simp [hk])
      have hk' : (l[i].1.toList == key.toList) = true := keq_iff.2 hk
      have ff : ∀ j, w.frozen? ⟨g, j, none⟩ = false := fun j => h.own.frozenAt j
      have HH := hid h
      have HK := hid hk
      clear h hi hk hh
      generalize hP : (fun (x : Ending) (w' : World) => ∃ vl', x = .returned (bgetV key l) ∧ BkP B w w' b (.slice (some ⟨g, 0, none⟩) l.length cap) vl' (bput key n l)) = PP
      have HP := hid hP
      clear hP
      go_enter Try.func31, Try.ntmps31
      go_wp2_with (go_at_call 30; refine P.out.mono ?_; rintro e w1 ⟨rfl, e1⟩; rw [e1]; clear e1 w1)
      rw [← HP.out]
      refine ⟨_, by rw [HR.out]; rfl, ⟨hp_set HH.out.blk (fun e => ?_) _, ?_⟩, (Kept.refl (fun k => k = b ∨ (Value.slice (some ⟨g, 0, none⟩) l.length cap).ownBlock = some k) w).setCell (p := ⟨g, i * 2 + 1, none⟩) (fun _ => .inr rfl) _, .inl rfl⟩
      · exact own_ne_blk HH.out.own HH.out.blk (by decide) (by rw [e]; rfl)
      · rw [HL.out, List.length_set, flat_set pc (key, n) l i pc_len hlt (.int .i64 n) (fun y hy => by rw [List.getElem?_eq_getElem hlt] at hy; injection hy with hy; subst hy; simp [pc, HK.out])]
        exact (HH.out.own.stored _ _).1
  · rw [len0 hlt] at hh
    cases hh

theorem grown_blk {w w' : World} {row : Option Nat} (h : w.grownBy w' row) {k : Nat} {o : Obj} (hk : w.heap[k]? = some o) (hn : row ≠ some k) : w'.heap[k]? = some o :=
  (h.block k (hp_lt hk) (fun e => hn e.symm)).trans hk

/-- Three rows one behind the other: what is left behind each append. -/
theorem own_far {_w : World} {v : Value} {N : Nat} (h : v.ownBlock = none ∨ v.ownBlock = some N) {k : Nat} (hk : k < N) : v.ownBlock ≠ some k := by
  rcases h with h | h
  · rw [h]; simp
  · rw [h]; simp; omega

theorem pc_flat_one (l : List Pr) : ∀ u ∈ l.flatMap pc, u.oneCell' = true := by
  intro u hu
  obtain ⟨y, _, hy⟩ := List.mem_flatMap.1 hu
  exact pc_one y u hy

theorem rf_take {B : Nat} {w : World} {b g cap : Nat} {l : List Pr} (h : Bk B w b (.slice (some ⟨g, 0, none⟩) l.length cap) l) (hm : cap ≤ maxLen) (hc : l.length ≤ cap) (i : Nat) (hi : i ≤ l.length) : Rf w 2 (.slice (some ⟨g, 0, none⟩) i cap) i ((l.take i).flatMap pc) := by
  refine ⟨by rw [flat_len pc 2 pc_len]; simp; omega, pc_flat_one _, .inr ⟨_, cap, rfl, by omega, hm, fun j u hu => ?_⟩⟩
  refine h.own.cells (g := g) rfl j u ?_
  have e : l.flatMap pc = (l.take i).flatMap pc ++ (l.drop i).flatMap pc := by rw [← List.flatMap_append, List.take_append_drop]
  rw [e, List.getElem?_append_left (by rcases Nat.lt_or_ge j ((l.take i).flatMap pc).length with h | h; exact h; rw [List.getElem?_eq_none h] at hu; cases hu)]
  exact hu
theorem rf_drop {B : Nat} {w : World} {b g cap : Nat} {l : List Pr} (h : Bk B w b (.slice (some ⟨g, 0, none⟩) l.length cap) l) (hm : cap ≤ maxLen) (hc : l.length ≤ cap) (i : Nat) (hi : i ≤ l.length) : Rf w 2 (.slice (some ⟨g, i * 2, none⟩) (l.length - i) (cap - i)) (l.length - i) ((l.drop i).flatMap pc) := by
  refine ⟨by rw [flat_len pc 2 pc_len]; simp, pc_flat_one _, .inr ⟨_, cap - i, rfl, by omega, by omega, fun j u hu => ?_⟩⟩
  have e : l.flatMap pc = (l.take i).flatMap pc ++ (l.drop i).flatMap pc := by rw [← List.flatMap_append, List.take_append_drop]
  have hl : ((l.take i).flatMap pc).length = i * 2 := by rw [flat_len pc 2 pc_len]; simp; omega
  have q := h.own.cells (g := g) rfl (i * 2 + j) u (by rw [e, List.getElem?_append_right (by omega), hl]; rw [show i * 2 + j - i * 2 = j by omega]; exact hu)
  rw [add_lit] at q ⊢
  rw [Nat.zero_add] at q
  exact q

theorem put_fin {B : Nat} {w w3 : World} {b m : Nat} {vl v : Value} {l A : List Pr} {xs : List Value} {key : ByteArray} {n : Int} (e : bput key n l = A) (hm : m = A.length) (hx : xs = A.flatMap pc)
    (z : w3.cell? ⟨b, 0, none⟩ = some vl ∧ w3.heap[b]? = some (.cells #[vl] 32 (0, 0)) ∧ w3.ownsRow B 64 2 v m xs ∧ (v.ownBlock = none ∨ ∃ k, w.heap.size ≤ k ∧ v.ownBlock = some k) ∧ Kept (fun _ => False) w w3) : BkP B w (w3.setCell ⟨b, 0, none⟩ v) b vl v (bput key n l) := by
  obtain ⟨-, z1, z2, z3, z4⟩ := z
  subst hm hx
  rw [e]
  refine ⟨⟨set_block (i := 0) z1 v, ownsRow_setCell_other z2 (own_ne_blk z2 z1 (by decide)) _⟩, (z4.mono (fun _ _ h => h.elim)).setCell (p := ⟨b, 0, none⟩) (fun _ => .inl rfl) _, ?_⟩
  rcases z3 with h | h
  · exact .inr (.inl h)
  · exact .inr (.inr h)

theorem rf_zero (w : World) (g off c : Nat) (hc : c ≤ maxLen) : Rf w 2 (.slice (some ⟨g, off, none⟩) 0 c) 0 [] :=
  ⟨rfl, (fun _ h => nomatch h), .inr ⟨_, c, rfl, Nat.zero_le _, hc, fun j u hu => (by simp at hu)⟩⟩

theorem Bk.cap {B : Nat} {w : World} {b g cap : Nat} {l : List Pr} (h : Bk B w b (.slice (some ⟨g, 0, none⟩) l.length cap) l) : cap ≤ maxLen := by
  rcases h.own.2 with ⟨e1, _⟩ | ⟨g', cap', cur, e1, _, _, _, hm, _⟩
  · cases e1
  · injection e1 with _ _ e3
    subst e3
    exact hm

/-- Behind the first append: the cell, the size, the block, the new row, the old row. -/
abbrev App (B : Nat) (w W : World) (b : Nat) (vl v : Value) (m : Nat) (xs : List Value) (l : List Pr) : Prop :=
  W.cell? ⟨b, 0, none⟩ = some vl ∧ w.heap.size ≤ W.heap.size ∧ (v.ownBlock = none ∨ ∃ k, w.heap.size ≤ k ∧ v.ownBlock = some k) ∧ W.ownsRow B 64 2 v m xs ∧ W.ownsRow B 64 2 vl l.length (l.flatMap pc) ∧ W.heap[b]? = some (.cells #[vl] 32 (0, 0)) ∧ Kept (fun _ => False) w W

theorem own_low {w : World} {B : Nat} {vl v : Value} {e : TypeId} {m n : Nat} {xs : List Value} (hv : w.ownsRow B e m vl n xs) (h : v.ownBlock = none ∨ ∃ k, w.heap.size ≤ k ∧ v.ownBlock = some k) : vl.ownBlock = none ∨ vl.ownBlock ≠ v.ownBlock := by
  cases hb : vl.ownBlock with
  | none => exact .inl rfl
  | some g =>
    right
    have := (hv.lt g hb).2
    rcases h with h | ⟨k, h1, h⟩
    · rw [h]; simp
    · rw [h]; simp; omega

theorem app1 {B : Nat} {w w1 : World} {b : Nat} {vl v : Value} {m : Nat} {xs : List Value} {l : List Pr} (h : Bk B w b vl l) (ho : w1.ownsRow B 64 2 v m xs) (hg : w.grownBy w1 (Value.slice none 0 0).ownBlock) (hat : v.ownBlock = (Value.slice none 0 0).ownBlock ∨ v.ownBlock = some w.heap.size) : App B w w1 b vl v m xs l := by
  have hb := grown_blk hg h.blk (by simp [Value.ownBlock])
  refine ⟨cells1 hb, hg.size, ?_, ho, h.own.kept hg (by by_cases e : vl.ownBlock = none; exact .inl e; exact .inr (by simpa [Value.ownBlock] using e)), hb, (Kept.refl (fun _ => False) w).grown hg (fun k _ e => by simp [Value.ownBlock] at e)⟩
  rcases hat with e | e
  · exact .inl e
  · exact .inr ⟨_, Nat.le_refl _, e⟩

theorem app2 {B : Nat} {w w1 w2 : World} {b : Nat} {vl v v' : Value} {m m' : Nat} {xs xs' : List Value} {l : List Pr} {o : Obj} (h : Bk B w b vl l) (z : App B w w1 b vl v m xs l) (ho : w2.ownsRow B 64 2 v' m' xs') (hg : (w1.alloc o).grownBy w2 v.ownBlock) (hat : v'.ownBlock = v.ownBlock ∨ v'.ownBlock = some (w1.alloc o).heap.size) : App B w w2 b vl v' m' xs' l := by
  obtain ⟨z0, z1, z2, z3, z4, z5, z6⟩ := z
  have hbl := hp_lt h.blk
  have hsz := hg.size
  have hss : (w1.alloc o).heap.size = w1.heap.size + 1 := by simp
  have hb := grown_blk hg (hp_alloc z5 o) (by rcases z2 with e | ⟨k, h1, e⟩; rw [e]; simp; rw [e]; simp; omega)
  refine ⟨cells1 hb, by omega, ?_, ho, (z4.alloc o).kept hg (own_low h.own z2), hb, (z6.alloc o).grown hg (fun k hk e => by rcases z2 with e2 | ⟨k2, h1, e2⟩; rw [e2] at e; cases e; rw [e2] at e; injection e with e; omega)⟩
  rcases hat with e | e
  · rw [e]; exact z2
  · exact .inr ⟨_, by omega, e⟩

theorem app3 {B : Nat} {w w2 w3 : World} {b : Nat} {vl v v' : Value} {m m' : Nat} {xs xs' : List Value} {l : List Pr} (h : Bk B w b vl l) (z : App B w w2 b vl v m xs l) (ho : w3.ownsRow B 64 2 v' m' xs') (hg : w2.grownBy w3 v.ownBlock) (hat : v'.ownBlock = v.ownBlock ∨ v'.ownBlock = some w2.heap.size) : w3.cell? ⟨b, 0, none⟩ = some vl ∧ w3.heap[b]? = some (.cells #[vl] 32 (0, 0)) ∧ w3.ownsRow B 64 2 v' m' xs' ∧ (v'.ownBlock = none ∨ ∃ k, w.heap.size ≤ k ∧ v'.ownBlock = some k) ∧ Kept (fun _ => False) w w3 := by
  obtain ⟨z0, z1, z2, z3, z4, z5, z6⟩ := z
  have hbl := hp_lt h.blk
  have hb := grown_blk hg z5 (by rcases z2 with e | ⟨k, h1, e⟩; rw [e]; simp; rw [e]; simp; omega)
  refine ⟨cells1 hb, hb, ho, ?_, z6.grown hg (fun k hk e => by rcases z2 with e2 | ⟨k2, h1, e2⟩; rw [e2] at e; cases e; rw [e2] at e; injection e with e; omega)⟩
  rcases hat with e | e
  · rw [e]; exact z2
  · exact .inr ⟨_, z1, e⟩

theorem rf_new (w : World) (key : ByteArray) (n : Int) : Rf (w.alloc (.cells #[.string key, .int .i64 n] 64)) 2 (.slice (some ⟨w.heap.size, 0, none⟩) 1 1) 1 (pc (key, n)) := by
  refine ⟨rfl, pc_one _, .inr ⟨_, 1, rfl, Nat.le_refl _, by unfold maxLen; omega, fun j u hu => ?_⟩⟩
  have hb := cells2 (hp_new w (.cells #[.string key, .int .i64 n] 64))
  rw [add_lit, Nat.zero_add]
  match j, hu with
  | 0, hu => simp [pc] at hu; subst hu; exact hb.1
  | 1, hu => simp [pc] at hu; subst hu; exact hb.2
  | j + 2, hu => simp [pc] at hu

set_option maxRecDepth 100000 in
set_option maxHeartbeats 4000000 in
theorem bput_new (B b : Nat) (vl : Value) (l : List Pr) (key : ByteArray) (n : Int) (w : World) (h : Bk B w b vl l) (hB : B ≤ w.heap.size) (hl : l.length ≤ 1000000) (hh : has key l = false) :
    Calls Try.prog 31 #[.pointer (some ⟨b, 0, none⟩), .string key, .int .i64 n] w fun x w' => ∃ vl', x = .returned (bgetV key l) ∧ BkP B w w' b vl vl' (bput key n l) := by
  have P := hid (place_any B b vl l key w h hl)
  have c0 := cells1 h.blk
  have hpl := plc_le key l
  have hbl := hp_lt h.blk
  have HR := hid (show bgetV key l = .tuple #[.int .i64 0, .bool false] by
    unfold has at hh
    unfold bgetV
    cases e : l[plc key l]? with
    | none => rfl
    | some x => rw [e] at hh; simp at hh; simp [hh])
  have HL := hid (show bput key n l = l.take (plc key l) ++ (key, n) :: l.drop (plc key l) by rw [bput, hh]; rfl)
  obtain ⟨i, hi⟩ : ∃ i, plc key l = i := ⟨_, rfl⟩
  rw [hi] at P hpl HL
  unfold has at hh
  rw [hi] at hh
  rcases h.shape with ⟨rfl, rfl⟩ | ⟨g, cap, rfl, hc, _⟩
  · have hi0 : i = 0 := by simpa using hpl
    subst hi0
    have HH := hid h
    clear h hi hh
    generalize hP : (fun (x : Ending) (w' : World) => ∃ vl', x = .returned (bgetV key []) ∧ BkP B w w' b (.slice none 0 0) vl' (bput key n [])) = PP
    have HP := hid hP
    clear hP
    go_enter Try.func31, Try.ntmps31
    go_wp2_with (first
      | (go_at_call 30; refine P.out.mono ?_; rintro e w1 ⟨rfl, e1⟩; rw [e1]; clear e1 w1)
      | (at_builtin
         refine wpList_append_rf w rfl (.tmp 50) (.tmp 56) 30 64 _ 2 24 rfl Try.underlying30 Try.info64 rfl (by omega) B (.slice none 0 0) 0 [] rfl (World.ownsRow_nil _ _ _ _) (.slice none 0 0) 0 [] rfl (rf_nil _ _) (by omega) (by unfold maxLen; omega) hB ?_
         intro a1 q1 w1 ho1 hg1 hat1
         simp only [Nat.zero_add, List.nil_append] at ho1 hat1
         have Z1 := hid (app1 HH.out ho1.out hg1.out hat1.out)
         have y0 := Z1.out.1
         have hz1 := Z1.out.2.1
         clear ho1 hg1 hat1)
      | (at_builtin
         refine wpList_append_rf (w1.alloc (.cells #[.string key, .int .i64 n] 64)) rfl (.tmp 58) (.tmp 62) 30 64 _ 2 24 rfl Try.underlying30 Try.info64 rfl (by omega) B _ _ _ rfl (Z1.out.2.2.2.1.alloc _) (.slice (some ⟨w1.heap.size, 0, none⟩) 1 1) 1 (pc (key, n)) rfl (rf_new w1 key n) (by omega) (by unfold maxLen; omega) (by simp; omega) ?_
         intro a2 q2 w2 ho2 hg2 hat2
         have Z2 := hid (app2 HH.out Z1.out ho2.out hg2.out hat2.out)
         have x0 := Z2.out.1
         have hz2 := Z2.out.2.1
         clear ho2 hg2 hat2)
      | (at_builtin
         refine wpList_append_rf w2 rfl (.tmp 65) (.tmp 71) 30 64 _ 2 24 rfl Try.underlying30 Try.info64 rfl (by omega) B _ _ _ rfl Z2.out.2.2.2.1 (.slice none 0 0) 0 [] rfl (rf_nil _ _) (by omega) (by unfold maxLen; omega) (by omega) ?_
         intro a3 q3 w3 ho3 hg3 hat3
         have Z3 := hid (app3 HH.out Z2.out ho3.out hg3.out hat3.out)
         have u0 := Z3.out.1
         have ff : ∀ j, w3.frozen? ⟨b, j, none⟩ = false := fun j => free_of_block Z3.out.2.1
         clear ho3 hg3 hat3))
    rw [← HP.out]
    exact ⟨_, by rw [HR.out]; rfl, put_fin HL.out (by simp) (by simp) Z3.out⟩
  · have HH := hid h
    have hm := h.cap
    have R1 := hid (rf_take h hm hc i hpl)
    have HC := hid (And.intro hm hc)
    by_cases hlt : i < l.length
    · obtain ⟨d0, d1⟩ := h.cells i hlt
      rw [List.getElem?_eq_getElem hlt] at hh
      have hk' : (l[i].1.toList == key.toList) = false := keq_false (by simpa using hh)
      clear h hi hh
      generalize hP : (fun (x : Ending) (w' : World) => ∃ vl', x = .returned (bgetV key l) ∧ BkP B w w' b (.slice (some ⟨g, 0, none⟩) l.length cap) vl' (bput key n l)) = PP
      have HP := hid hP
      clear hP
      go_enter Try.func31, Try.ntmps31
      go_wp2_with (first
        | (go_at_call 30; refine P.out.mono ?_; rintro e w1 ⟨rfl, e1⟩; rw [e1]; clear e1 w1)
        | (at_builtin
           refine wpList_append_rf w rfl (.tmp 50) (.tmp 56) 30 64 _ 2 24 rfl Try.underlying30 Try.info64 rfl (by omega) B (.slice none 0 0) 0 [] rfl (World.ownsRow_nil _ _ _ _) (.slice (some ⟨g, 0, none⟩) i cap) i ((l.take i).flatMap pc) rfl R1.out (by omega) (by unfold maxLen; omega) hB ?_
           intro a1 q1 w1 ho1 hg1 hat1
           simp only [Nat.zero_add, List.nil_append] at ho1 hat1
           have Z1 := hid (app1 HH.out ho1.out hg1.out hat1.out)
           have y0 := Z1.out.1
           have hz1 := Z1.out.2.1
           clear ho1 hg1 hat1)
        | (at_builtin
           refine wpList_append_rf (w1.alloc (.cells #[.string key, .int .i64 n] 64)) rfl (.tmp 58) (.tmp 62) 30 64 _ 2 24 rfl Try.underlying30 Try.info64 rfl (by omega) B _ _ _ rfl (Z1.out.2.2.2.1.alloc _) (.slice (some ⟨w1.heap.size, 0, none⟩) 1 1) 1 (pc (key, n)) rfl (rf_new w1 key n) (by omega) (by unfold maxLen; omega) (by simp; omega) ?_
           intro a2 q2 w2 ho2 hg2 hat2
           have Z2 := hid (app2 HH.out Z1.out ho2.out hg2.out hat2.out)
           have x0 := Z2.out.1
           have hz2 := Z2.out.2.1
           clear ho2 hg2 hat2)
        | (at_builtin
           refine wpList_append_rf w2 rfl (.tmp 65) (.tmp 71) 30 64 _ 2 24 rfl Try.underlying30 Try.info64 rfl (by omega) B _ _ _ rfl Z2.out.2.2.2.1 (.slice (some ⟨g, i * 2, none⟩) (l.length - i) (cap - i)) (l.length - i) ((l.drop i).flatMap pc) rfl (rf_drop ⟨Z2.out.2.2.2.2.2.1, Z2.out.2.2.2.2.1⟩ HC.out.1 HC.out.2 i hpl) (by omega) (by unfold maxLen; omega) (by omega) ?_
           intro a3 q3 w3 ho3 hg3 hat3
           have Z3 := hid (app3 HH.out Z2.out ho3.out hg3.out hat3.out)
           have u0 := Z3.out.1
           have ff : ∀ j, w3.frozen? ⟨b, j, none⟩ = false := fun j => free_of_block Z3.out.2.1
           clear ho3 hg3 hat3))
      rw [← HP.out]
      exact ⟨_, by rw [HR.out]; rfl, put_fin HL.out (by simp; omega) (by simp) Z3.out⟩
    · have hge : l.length ≤ i := by omega
      clear hlt
      by_cases hci : cap = i
      · subst hci
        clear h hi hh
        generalize hP : (fun (x : Ending) (w' : World) => ∃ vl', x = .returned (bgetV key l) ∧ BkP B w w' b (.slice (some ⟨g, 0, none⟩) l.length cap) vl' (bput key n l)) = PP
        have HP := hid hP
        clear hP
        go_enter Try.func31, Try.ntmps31
        go_wp2_with (first
          | (go_at_call 30; refine P.out.mono ?_; rintro e w1 ⟨rfl, e1⟩; rw [e1]; clear e1 w1)
          | (at_builtin
             refine wpList_append_rf w rfl (.tmp 50) (.tmp 56) 30 64 _ 2 24 rfl Try.underlying30 Try.info64 rfl (by omega) B (.slice none 0 0) 0 [] rfl (World.ownsRow_nil _ _ _ _) (.slice (some ⟨g, 0, none⟩) cap cap) cap ((l.take cap).flatMap pc) rfl R1.out (by omega) (by unfold maxLen; omega) hB ?_
             intro a1 q1 w1 ho1 hg1 hat1
             simp only [Nat.zero_add, List.nil_append] at ho1 hat1
             have Z1 := hid (app1 HH.out ho1.out hg1.out hat1.out)
             have y0 := Z1.out.1
             have hz1 := Z1.out.2.1
             clear ho1 hg1 hat1)
          | (at_builtin
             refine wpList_append_rf (w1.alloc (.cells #[.string key, .int .i64 n] 64)) rfl (.tmp 58) (.tmp 62) 30 64 _ 2 24 rfl Try.underlying30 Try.info64 rfl (by omega) B _ _ _ rfl (Z1.out.2.2.2.1.alloc _) (.slice (some ⟨w1.heap.size, 0, none⟩) 1 1) 1 (pc (key, n)) rfl (rf_new w1 key n) (by omega) (by unfold maxLen; omega) (by simp; omega) ?_
             intro a2 q2 w2 ho2 hg2 hat2
             have Z2 := hid (app2 HH.out Z1.out ho2.out hg2.out hat2.out)
             have x0 := Z2.out.1
             have hz2 := Z2.out.2.1
             clear ho2 hg2 hat2)
          | (at_builtin
             refine wpList_append_rf w2 rfl (.tmp 65) (.tmp 71) 30 64 _ 2 24 rfl Try.underlying30 Try.info64 rfl (by omega) B _ _ _ rfl Z2.out.2.2.2.1 (.slice (some ⟨g, 0, none⟩) 0 0) 0 [] rfl (rf_zero w2 g 0 0 (by unfold maxLen; omega)) (by omega) (by unfold maxLen; omega) (by omega) ?_
             intro a3 q3 w3 ho3 hg3 hat3
             have Z3 := hid (app3 HH.out Z2.out ho3.out hg3.out hat3.out)
             have u0 := Z3.out.1
             have ff : ∀ j, w3.frozen? ⟨b, j, none⟩ = false := fun j => free_of_block Z3.out.2.1
             clear ho3 hg3 hat3))
        rw [← HP.out]
        exact ⟨_, by rw [HR.out]; rfl, put_fin HL.out (by simp; omega) (by rw [List.drop_of_length_le hge]; simp) Z3.out⟩
      · have hci' : i < cap := by omega
        clear h hi hh hci
        generalize hP : (fun (x : Ending) (w' : World) => ∃ vl', x = .returned (bgetV key l) ∧ BkP B w w' b (.slice (some ⟨g, 0, none⟩) l.length cap) vl' (bput key n l)) = PP
        have HP := hid hP
        clear hP
        go_enter Try.func31, Try.ntmps31
        go_wp2_with (first
          | (go_at_call 30; refine P.out.mono ?_; rintro e w1 ⟨rfl, e1⟩; rw [e1]; clear e1 w1)
          | (at_builtin
             refine wpList_append_rf w rfl (.tmp 50) (.tmp 56) 30 64 _ 2 24 rfl Try.underlying30 Try.info64 rfl (by omega) B (.slice none 0 0) 0 [] rfl (World.ownsRow_nil _ _ _ _) (.slice (some ⟨g, 0, none⟩) i cap) i ((l.take i).flatMap pc) rfl R1.out (by omega) (by unfold maxLen; omega) hB ?_
             intro a1 q1 w1 ho1 hg1 hat1
             simp only [Nat.zero_add, List.nil_append] at ho1 hat1
             have Z1 := hid (app1 HH.out ho1.out hg1.out hat1.out)
             have y0 := Z1.out.1
             have hz1 := Z1.out.2.1
             clear ho1 hg1 hat1)
          | (at_builtin
             refine wpList_append_rf (w1.alloc (.cells #[.string key, .int .i64 n] 64)) rfl (.tmp 58) (.tmp 62) 30 64 _ 2 24 rfl Try.underlying30 Try.info64 rfl (by omega) B _ _ _ rfl (Z1.out.2.2.2.1.alloc _) (.slice (some ⟨w1.heap.size, 0, none⟩) 1 1) 1 (pc (key, n)) rfl (rf_new w1 key n) (by omega) (by unfold maxLen; omega) (by simp; omega) ?_
             intro a2 q2 w2 ho2 hg2 hat2
             have Z2 := hid (app2 HH.out Z1.out ho2.out hg2.out hat2.out)
             have x0 := Z2.out.1
             have hz2 := Z2.out.2.1
             clear ho2 hg2 hat2)
          | (at_builtin
             refine wpList_append_rf w2 rfl (.tmp 65) (.tmp 71) 30 64 _ 2 24 rfl Try.underlying30 Try.info64 rfl (by omega) B _ _ _ rfl Z2.out.2.2.2.1 (.slice (some ⟨g, i * 2, none⟩) 0 (cap - i)) 0 [] rfl (rf_zero w2 g _ _ (by have := HC.out.1; omega)) (by omega) (by unfold maxLen; omega) (by omega) ?_
             intro a3 q3 w3 ho3 hg3 hat3
             have Z3 := hid (app3 HH.out Z2.out ho3.out hg3.out hat3.out)
             have u0 := Z3.out.1
             have ff : ∀ j, w3.frozen? ⟨b, j, none⟩ = false := fun j => free_of_block Z3.out.2.1
             clear ho3 hg3 hat3))
        rw [← HP.out]
        exact ⟨_, by rw [HR.out]; rfl, put_fin HL.out (by simp; omega) (by rw [List.drop_of_length_le hge]; simp) Z3.out⟩

end Go.Proofs.Ytkalppcekmlgbaa
