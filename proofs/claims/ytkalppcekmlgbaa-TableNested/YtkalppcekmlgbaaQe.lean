import Derived.Test.YtkalppcekmlgbaaQd
namespace Go.Proofs.Ytkalppcekmlgbaa
open Go.RowKit

theorem bput_any (B b : Nat) (vl : Value) (l : List Pr) (key : ByteArray) (n : Int) (w : World) (h : Bk B w b vl l) (hB : B ≤ w.heap.size) (hl : l.length ≤ 1000000) :
    Calls Try.prog 31 #[.pointer (some ⟨b, 0, none⟩), .string key, .int .i64 n] w fun x w' => ∃ vl', x = .returned (bgetV key l) ∧ BkP B w w' b vl vl' (bput key n l) := by
  cases hh : has key l
  · exact bput_new B b vl l key n w h hB hl hh
  · exact bput_has B b vl l key n w h hl hh

/-- A table (or none) and the document's, alike. -/
structure St (B : Nat) (w : World) (o : Option Addr) (t : Tr) (b : Nat) (vl : Value) (l : List Pr) : Prop where
  to : TO w o t
  lo : ∀ p, o = some ⟨p, 0, none⟩ → B ≤ p
  ow : ∀ i ∈ t.bs, B ≤ i
  hb : B ≤ b
  bk : Bk B w b vl l
  mt : Mt t l
  sh : ∀ p ∈ l, p.1.size ≤ 281474976710656

/-- Their blocks. -/
def ft (o : Option Addr) (t : Tr) (b : Nat) (vl : Value) : Nat → Prop := fun k => o = some ⟨k, 0, none⟩ ∨ k ∈ t.bs ∨ k = b ∨ vl.ownBlock = some k

theorem TO.kept {w w' : World} {o : Option Addr} {t : Tr} {S : Nat → Prop} (h : TO w o t) (hk : Kept S w w') (h0 : ∀ p, o = some ⟨p, 0, none⟩ → ¬ S p) (h1 : ∀ i ∈ t.bs, ¬ S i) : TO w' o t := by
  rcases h with ⟨h2, h3⟩ | ⟨p, h2, h3⟩
  · exact .inl ⟨h2, h3⟩
  · exact .inr ⟨p, h2, h3.kept hk (h0 p h2) h1⟩
theorem Bk.kept {B : Nat} {w w' : World} {b : Nat} {vl : Value} {l : List Pr} {S : Nat → Prop} (h : Bk B w b vl l) (hk : Kept S w w') (h0 : ¬ S b) (h1 : ∀ k, vl.ownBlock = some k → ¬ S k) : Bk B w' b vl l :=
  ⟨hp_kept h.blk hk h0, ownsRow_kept h.own hk h1⟩

theorem St.kept {B : Nat} {w w' : World} {o : Option Addr} {t : Tr} {b : Nat} {vl : Value} {l : List Pr} {S : Nat → Prop} (h : St B w o t b vl l) (hk : Kept S w w') (hS : ∀ k, ft o t b vl k → ¬ S k) : St B w' o t b vl l :=
  ⟨h.to.kept hk (fun p hp => hS p (.inl hp)) (fun i hi => hS i (.inr (.inl hi))), h.lo, h.ow, h.hb, h.bk.kept hk (hS b (.inr (.inr (.inl rfl)))) (fun k hk => hS k (.inr (.inr (.inr hk)))), h.mt, h.sh⟩
theorem St.below {B : Nat} {w w' : World} {o : Option Addr} {t : Tr} {b : Nat} {vl : Value} {l : List Pr} (h : St B w o t b vl l) (hk : Below w.heap.size w w') : St B w' o t b vl l :=
  h.kept (Kept.ofBelow hk) (fun _ _ e => e)
theorem St.lt {B : Nat} {w : World} {o : Option Addr} {t : Tr} {b : Nat} {vl : Value} {l : List Pr} (h : St B w o t b vl l) : ∀ k, ft o t b vl k → B ≤ k ∧ k < w.heap.size := by
  rintro k (hk | hk | hk | hk)
  · refine ⟨h.lo k hk, ?_⟩
    rcases h.to with ⟨h2, _⟩ | ⟨p, h2, h3⟩
    · rw [hk] at h2; cases h2
    · rw [hk] at h2; injection h2 with h2; injection h2 with h2; subst h2; exact hp_lt h3.blk
  · exact ⟨h.ow k hk, h.to.at_.lt k hk⟩
  · subst hk; exact ⟨h.hb, hp_lt h.bk.blk⟩
  · exact h.bk.own.lt k hk

/-- Behind a step. -/
structure Sp (B : Nat) (w w' : World) (o : Option Addr) (t : Tr) (b : Nat) (vl : Value) (l : List Pr) (t' : Tr) (vl' : Value) (l' : List Pr) : Prop where
  st : St B w' o t' b vl' l'
  kp : Kept (ft o t b vl) w w'
  nw : ∀ k, ft o t' b vl' k → ft o t b vl k ∨ w.heap.size ≤ k
  cn : ∀ p : ByteArray → Bool, l'.countP (fun e => p e.1) ≤ l.countP (fun e => p e.1) + 1

theorem Sp.ln {B : Nat} {w w' : World} {o : Option Addr} {t : Tr} {b : Nat} {vl : Value} {l : List Pr} {t' : Tr} {vl' : Value} {l' : List Pr} (h : Sp B w w' o t b vl l t' vl' l') : l'.length ≤ l.length + 1 := by
  have := h.cn (fun _ => true)
  simpa using this

theorem Sp.same {B : Nat} {w w' : World} {o : Option Addr} {t : Tr} {b : Nat} {vl : Value} {l : List Pr} (h : St B w o t b vl l) (hk : Below w.heap.size w w') : Sp B w w' o t b vl l t vl l :=
  ⟨h.below hk, (Kept.ofBelow hk).mono (fun _ _ e => e.elim), fun _ hk => .inl hk, fun _ => Nat.le_succ _⟩

theorem ft_types {B : Nat} {w : World} {p : Nat} {t : Tr} {b : Nat} {vl : Value} {l : List Pr} (ht : Tb w p t) (hb : Bk B w b vl l) : b ≠ p ∧ b ∉ t.bs ∧ vl.ownBlock ≠ some p ∧ ∀ i ∈ t.bs, vl.ownBlock ≠ some i := by
  refine ⟨fun e => ?_, fun hm => ?_, own_ne_blk hb.own ht.blk (by decide), fun i hi => ?_⟩
  · subst e
    have := hb.blk
    rw [ht.blk] at this
    cases this
  · obtain ⟨k, v, hm⟩ := bs_mem hm
    obtain ⟨a, c, d, e⟩ := ht.at_.mem b k v hm
    have := hb.blk
    rw [e] at this
    cases this
  · obtain ⟨k, v, hm⟩ := bs_mem hi
    obtain ⟨a, c, d, e⟩ := ht.at_.mem i k v hm
    exact own_ne_blk hb.own e (by decide)

theorem mem_bput {key : ByteArray} {n : Int} {l : List Pr} {q : Pr} (h : q ∈ bput key n l) : q ∈ l ∨ q = (key, n) := by
  unfold bput at h
  split at h
  · exact List.mem_or_eq_of_mem_set h
  · rcases List.mem_append.1 h with h | h
    · exact .inl (List.mem_of_mem_take h)
    · rcases List.mem_cons.1 h with h | h
      · exact .inr h
      · exact .inl (List.mem_of_mem_drop h)
theorem mem_bcut {key : ByteArray} {l : List Pr} {q : Pr} (h : q ∈ bcut key l) : q ∈ l := by
  unfold bcut at h
  split at h
  · rcases List.mem_append.1 h with h | h
    · exact List.mem_of_mem_take h
    · exact List.mem_of_mem_drop h
  · exact h

/-- The table's blocks are written, then the document's. -/
theorem sp_both {B : Nat} {w w1 w2 : World} {p : Nat} {t t' : Tr} {b : Nat} {vl vl' : Value} {l l' : List Pr} (h : St B w (some ⟨p, 0, none⟩) t b vl l) (ht : Tb w p t) (tb : Tb w1 p t') (kp : Kept (fun i => i = p ∨ i ∈ t.bs) w w1) (nw : ∀ i ∈ t'.bs, i ∈ t.bs ∨ w.heap.size ≤ i)
    (hb1 : Bk B w1 b vl l) (hk : BkP B w1 w2 b vl vl' l') (mt : Mt t' l') (sh : ∀ q ∈ l', q.1.size ≤ 281474976710656) (cn : ∀ p : ByteArray → Bool, l'.countP (fun e => p e.1) ≤ l.countP (fun e => p e.1) + 1) : Sp B w w2 (some ⟨p, 0, none⟩) t b vl l t' vl' l' := by
  obtain ⟨f1, f2, f3, f4⟩ := ft_types tb hb1
  have hs := kp.size
  have hB : B ≤ w.heap.size := by have := (h.lt b (.inr (.inr (.inl rfl)))); omega
  refine ⟨⟨.inr ⟨p, rfl, tb.kept hk.kp ?_ ?_⟩, h.lo, ?_, h.hb, hk.bk, mt, sh⟩, ?_, ?_, cn⟩
  · rintro (e | e)
    · exact f1 e.symm
    · exact f3 e
  · rintro i hi (e | e)
    · exact f2 (e ▸ hi)
    · exact f4 i hi e
  · intro i hi
    rcases nw i hi with h1 | h1
    · exact h.ow i h1
    · omega
  · refine (kp.mono (fun i _ e => ?_)).trans hk.kp (fun i _ e => ?_)
    · rcases e with rfl | e
      · exact .inl rfl
      · exact .inr (.inl e)
    · exact .inr (.inr e)
  · rintro k (hk2 | hk2 | hk2 | hk2)
    · exact .inl (.inl hk2)
    · rcases nw k hk2 with h1 | h1
      · exact .inl (.inr (.inl h1))
      · exact .inr h1
    · exact .inl (.inr (.inr (.inl hk2)))
    · rcases hk.ow with e | e | ⟨m, h1, e⟩
      · rw [e] at hk2; exact .inl (.inr (.inr (.inr hk2)))
      · rw [e] at hk2; cases hk2
      · rw [e] at hk2; injection hk2 with hk2; exact .inr (by omega)

theorem bk_after {B : Nat} {w w1 : World} {p : Nat} {t : Tr} {b : Nat} {vl : Value} {l : List Pr} (ht : Tb w p t) (hb : Bk B w b vl l) (kp : Kept (fun i => i = p ∨ i ∈ t.bs) w w1) : Bk B w1 b vl l := by
  obtain ⟨f1, f2, f3, f4⟩ := ft_types ht hb
  refine hb.kept kp ?_ ?_
  · rintro (e | e)
    · exact f1 e
    · exact f2 e
  · rintro k hk (e | e)
    · exact f3 (e ▸ hk)
    · exact f4 k e hk

/-- A step as data. -/
structure Sx where
  kind : Int
  key : ByteArray
  to : ByteArray
  v : Int
  stop : Int
def Sx.cells (x : Sx) : List Value := [.int .i64 x.kind, .string x.key, .string x.to, .int .i64 x.v, .int .i64 x.stop]

theorem bgetV_form (key : ByteArray) (l : List Pr) : ∃ a c, bgetV key l = .tuple #[.int .i64 a, .bool c] := by
  unfold bgetV
  split
  · split <;> exact ⟨_, _, rfl⟩
  · exact ⟨_, _, rfl⟩
theorem bnextV_form (key : ByteArray) (l : List Pr) : ∃ a c, bnextV key l = .tuple #[.string a, .bool c] := by
  unfold bnextV
  split <;> exact ⟨_, _, rfl⟩
theorem bleastV_form (key : ByteArray) (l : List Pr) : ∃ a c, bleastV key l = .tuple #[.string a, .bool c] := by
  unfold bleastV
  split <;> exact ⟨_, _, rfl⟩

/-- What a step leaves. -/
def OneP (B : Nat) (w : World) (o : Option Addr) (t : Tr) (b : Nat) (vl : Value) (l : List Pr) : Ending → World → Prop := fun e w' => e = .returned (.bool true) ∧ ∃ t' vl' l', Sp B w w' o t b vl l t' vl' l'

theorem Sp.from {B : Nat} {w W w' : World} {o : Option Addr} {t : Tr} {b : Nat} {vl : Value} {l : List Pr} {t' : Tr} {vl' : Value} {l' : List Pr} (hw : Below w.heap.size w W) (h : Sp B W w' o t b vl l t' vl' l') : Sp B w w' o t b vl l t' vl' l' :=
  ⟨h.st, ((Kept.ofBelow hw).mono (fun _ _ e => e.elim)).trans h.kp (fun _ _ e => e), fun k hk => by
    rcases h.nw k hk with h1 | h1
    · exact .inl h1
    · exact .inr (Nat.le_trans hw.size h1), h.cn⟩

abbrev sxB (x : Sx) : Obj := .cells #[.int .i64 x.kind, .string x.key, .string x.to, .int .i64 x.v, .int .i64 x.stop] 51

theorem kind_false {a b : Int} (h : a ≠ b) : (a == b) = false := by rw [beq_eq_false_iff_ne]; exact h

set_option maxRecDepth 100000 in
set_option maxHeartbeats 2000000 in
theorem one_put (B p : Nat) (t : Tr) (b : Nat) (vl : Value) (l : List Pr) (x : Sx) (w : World) (h : St B w (some ⟨p, 0, none⟩) t b vl l) (hk : x.key.size ≤ 281474976710656) (hl : l.length ≤ 500000) (h1 : x.kind = 1) :
    Calls Try.prog 20 #[.pointer (some ⟨p, 0, none⟩), .pointer (some ⟨b, 0, none⟩), .agg #[.int .i64 x.kind, .string x.key, .string x.to, .int .i64 x.v, .int .i64 x.stop]] w (OneP B w (some ⟨p, 0, none⟩) t b vl l) := by
  obtain ⟨kind, key, to, n, stop⟩ := x
  simp only at h1 hk ⊢
  subst h1
  obtain ⟨W, hW⟩ : ∃ W, W = w.alloc (sxB ⟨1, key, to, n, stop⟩) := ⟨_, rfl⟩
  have hbW : Below w.heap.size w W := by rw [hW]; exact below_new _ _
  have hblk : W.heap[w.heap.size]? = some (sxB ⟨1, key, to, n, stop⟩) := by rw [hW]; exact hp_new _ _
  have hS := h.below hbW
  have htb : Tb W p t := by
    rcases hS.to with ⟨e, _⟩ | ⟨p', e, h3⟩
    · cases e
    · injection e with e; injection e with e; subst e; exact h3
  obtain ⟨-, y1, -, y3, -⟩ := cells5 hblk
  obtain ⟨y0, -⟩ := cells5 hblk
  have hsz : ∀ k, ft (some ⟨p, 0, none⟩) t b vl k → k < w.heap.size := fun k hk => (h.lt k hk).2
  obtain ⟨ga, gc, hg⟩ := bgetV_form key l
  have A1 := hid (show Calls Try.prog 21 #[.pointer (some ⟨p, 0, none⟩), .string key, .int .i64 n] W fun x w1 => x = .returned (.tuple #[.int .i64 ga, .bool gc]) ∧ w1.heap[w.heap.size]? = some (sxB ⟨1, key, to, n, stop⟩) ∧ ∃ t', PutP W w1 p t t' key (.int .i64 n) from by
    refine (put_any p key n t W htb (by rw [h.mt.len]; omega) hk).mono ?_
    rintro x w1 ⟨t', rfl, hp⟩
    refine ⟨by rw [h.mt.get htb.rs, hg], hp_kept hblk hp.kp ?_, t', hp⟩
    rintro (e | e)
    · have := hsz p (.inl rfl); omega
    · have := hsz _ (.inr (.inl e)); omega)
  have A2 := hid (show ∀ w1 t', PutP W w1 p t t' key (.int .i64 n) → Calls Try.prog 31 #[.pointer (some ⟨b, 0, none⟩), .string key, .int .i64 n] w1 fun x w2 => x = .returned (.tuple #[.int .i64 ga, .bool gc]) ∧ ∃ vl' l', Sp B w w2 (some ⟨p, 0, none⟩) t b vl l t' vl' l' from by
    intro w1 t' hp
    have hb1 := bk_after htb hS.bk hp.kp
    have hs1 := hp.kp.size
    have hB := hS.lt b (.inr (.inr (.inl rfl)))
    refine (bput_any B b vl l key n w1 hb1 (by omega) (by omega)).mono ?_
    rintro x w2 ⟨vl', rfl, hk2⟩
    refine ⟨by rw [hg], vl', _, Sp.from hbW (sp_both hS htb hp.tb hp.kp hp.nw hb1 hk2 (h.mt.put htb hp) ?_ (bput_cnt _ _ _))⟩
    intro q hq
    rcases mem_bput hq with h1 | h1
    · exact h.sh q h1
    · rw [h1]; exact hk)
  have HW := hid hW
  have hws : w.heap.size < W.heap.size := hp_lt hblk
  clear h hS htb hblk hbW hW hsz hg
  go_enter Try.func20, Try.ntmps20
  go_wp2_with (first
    | (go_at_call 21
       rw [← HW.out]
       refine A1.out.mono ?_
       rintro e w1 ⟨rfl, hbk, t', hp⟩
       obtain ⟨-, z1, -, z3, -⟩ := cells5 hbk
       have N1 := hid hp
       clear hp hbk)
    | (go_at_call 31
       refine (A2.out w1 t' N1.out).mono ?_
       rintro e w2 ⟨rfl, vl', l', hp⟩
       have N2 := hid hp
       clear hp))
  go_ret
  exact ⟨rfl, _, _, _, N2.out⟩

end Go.Proofs.Ytkalppcekmlgbaa
