import Derived.Test.YtkalppcekmlgbabTc
namespace Go.Proofs.Ytkalppcekmlgbab
open Go.RowKit

/-- The boxes of TableSteady. -/
structure Ux (B D S : Nat) (w : World) (ov gv : Value) (p : Nat) (fd n : Int) (ls : ByteArray) : Prop where
  bo : w.heap[B]? = some (.cells #[ov] 22 (0, 0))
  bg : w.heap[B + 1]? = some (.cells #[gv] 22 (0, 0))
  bt : w.heap[D]? = some (.cells #[.pointer (some ⟨p, 0, none⟩)] 49 (0, 0))
  bf : w.heap[S]? = some (.cells #[.int .i64 fd] 3 (0, 0))
  bn : w.heap[S + 1]? = some (.cells #[.int .i64 n] 3 (0, 0))
  bl : Bx w (S + 2) ls
  bk : w.heap[S + 3]? = some (.cells #[.bool true] 4 (0, 0))

theorem Ux.kept {B D S : Nat} {w w' : World} {ov gv : Value} {p : Nat} {fd n : Int} {ls : ByteArray} {Q : Nat → Prop} (h : Ux B D S w ov gv p fd n ls) (hk : Kept Q w w') (h0 : ¬ Q B) (h1 : ¬ Q (B + 1)) (h2 : ¬ Q D) (h3 : ∀ j, S ≤ j → j ≤ S + 3 → ¬ Q j) : Ux B D S w' ov gv p fd n ls :=
  ⟨hp_kept h.bo hk h0, hp_kept h.bg hk h1, hp_kept h.bt hk h2, hp_kept h.bf hk (h3 _ (by omega) (by omega)), hp_kept h.bn hk (h3 _ (by omega) (by omega)), hp_kept h.bl hk (h3 _ (by omega) (by omega)), hp_kept h.bk hk (h3 _ (by omega) (by omega))⟩

/-- What a table's blocks are not. -/
theorem tb_not {w : World} {p : Nat} {t : Tr} (ht : Tb w p t) {k : Nat} {cs : Array Value} {ty : TypeId} (hb : w.heap[k]? = some (.cells cs ty (0, 0))) (hn : ty ≠ 89 ∧ ty ≠ 93) : ¬ (k = p ∨ k ∈ t.bs) := by
  rintro (rfl | h)
  · rw [ht.blk] at hb
    injection hb with e
    injection e with _ e
    exact hn.1 e.symm
  · obtain ⟨key, v, hm⟩ := bs_mem h
    obtain ⟨a, c, d, e⟩ := ht.at_.mem k key v hm
    rw [e] at hb
    injection hb with e2
    injection e2 with _ e2
    exact hn.2 e2.symm

theorem Ux.tb {B D S : Nat} {w w' : World} {ov gv : Value} {p : Nat} {fd n : Int} {ls : ByteArray} {t : Tr} (h : Ux B D S w ov gv p fd n ls) (ht : Tb w p t) (hk : Kept (fun i => i = p ∨ i ∈ t.bs) w w') : Ux B D S w' ov gv p fd n ls :=
  ⟨hp_kept h.bo hk (tb_not ht h.bo (by decide)), hp_kept h.bg hk (tb_not ht h.bg (by decide)), hp_kept h.bt hk (tb_not ht h.bt (by decide)), hp_kept h.bf hk (tb_not ht h.bf (by decide)), hp_kept h.bn hk (tb_not ht h.bn (by decide)), hp_kept h.bl hk (tb_not ht h.bl (by decide)), hp_kept h.bk hk (tb_not ht h.bk (by decide))⟩

/-- Behind some puts and deletes of keys that are touched. -/
structure Sd2 (tc : ByteArray → Prop) (w w' : World) (p : Nat) (t t' : Tr) (d : Nat) : Prop where
  tb : Tb w' p t'
  kp : Kept (fun i => i = p ∨ i ∈ t.bs) w w'
  nw : ∀ i ∈ t'.bs, i ∈ t.bs ∨ w.heap.size ≤ i
  gd : Good tc t'.toL
  ch : Ch t.toL t'.toL d

theorem Sd2.refl {tc : ByteArray → Prop} {w : World} {p : Nat} {t : Tr} (ht : Tb w p t) (hg : Good tc t.toL) : Sd2 tc w w p t t 0 := ⟨ht, Kept.refl _ _, fun _i hi => .inl hi, hg, Ch.refl _⟩
theorem Sd2.trans {tc : ByteArray → Prop} {w w1 w2 : World} {p : Nat} {t t1 t2 : Tr} {d d' : Nat} (h : Sd2 tc w w1 p t t1 d) (h' : Sd2 tc w1 w2 p t1 t2 d') : Sd2 tc w w2 p t t2 (d + d') := by
  have hs := h.kp.size
  refine ⟨h'.tb, h.kp.trans h'.kp (fun j hj e => ?_), fun i hi => ?_, h'.gd, h.ch.trans h'.ch⟩
  · rcases e with e | e
    · exact .inl e
    · rcases h.nw j e with h1 | h1
      · exact .inr h1
      · omega
  · rcases h'.nw i hi with h1 | h1
    · exact h.nw i h1
    · exact .inr (by omega)
theorem Sd2.below {tc : ByteArray → Prop} {w w1 w2 : World} {p : Nat} {t t1 : Tr} {d : Nat} (h : Sd2 tc w w1 p t t1 d) (hb : Below w1.heap.size w1 w2) : Sd2 tc w w2 p t t1 d :=
  ⟨h.tb.below hb, h.kp.trans (Kept.ofBelow hb) (fun _ _ e => e.elim), h.nw, h.gd, h.ch⟩

/-- Put of a touched key. -/
theorem sd_put {tc : ByteArray → Prop} {w : World} {p : Nat} {t : Tr} (ht : Tb w p t) (hg : Good tc t.toL) (key : ByteArray) (hk : key.size ≤ 281474976710656) (hc : tc key) (hn : t.n ≤ 600000) :
    Calls Try.prog 20 #[.pointer (some ⟨p, 0, none⟩), .string key, .int .i64 2] w.drew fun x w' => ∃ v t', x = .returned v ∧ Hid (Sd2 tc w w' p t t' 1) := by
  refine (put_any p key 2 t w.drew (ht.below (Below.refl _ _).drew) hn hk).mono ?_
  rintro x w' ⟨t', rfl, hp⟩
  exact ⟨_, t', rfl, hid ⟨hp.tb, hp.kp.undrew, hp.nw, put_good (ht.below (Below.refl _ _).drew) hp hg hk (fun h => by cases h), put_ch (ht.below (Below.refl _ _).drew) hp hg hc⟩⟩

/-- Delete of a touched key. -/
theorem sd_del {tc : ByteArray → Prop} {w : World} {p : Nat} {t : Tr} (ht : Tb w p t) (hg : Good tc t.toL) (key : ByteArray) (hc : tc key) (hn : t.n ≤ 600000) :
    Calls Try.prog 25 #[.pointer (some ⟨p, 0, none⟩), .string key] w.drew fun x w' => ∃ v t', x = .returned v ∧ Hid (Sd2 tc w w' p t t' 0) := by
  cases hq : ent key t.toL with
  | none =>
    refine (delete_none (some ⟨p, 0, none⟩) key t w.drew (.inr ⟨p, rfl, ht.below (Below.refl _ _).drew⟩) hq).mono ?_
    rintro x w' ⟨rfl, hb⟩
    exact ⟨_, t, rfl, hid ((Sd2.refl ht hg).below (undrew hb))⟩
  | some c =>
    obtain ⟨b, k, v⟩ := c
    refine (delete_some p key t w.drew (ht.below (Below.refl _ _).drew) hn hq).mono ?_
    rintro x w' ⟨t', rfl, hd⟩
    exact ⟨_, t', rfl, hid ⟨hd.tb, hd.kp.undrew, fun i hi => .inl (hd.nw i hi), hd.ls ▸ del_good hg, hd.ls ▸ del_ch hg hc⟩⟩

end Go.Proofs.Ytkalppcekmlgbab
