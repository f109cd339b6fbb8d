import Derived.Test.YtkalppcekmlgbabPk
namespace Go.Proofs.Ytkalppcekmlgbab
open Go.RowKit

theorem Kept.belowOf {S : Nat → Prop} {w0 w w' : World} {B : Nat} (h0 : Below B w0 w) (h : Kept S w w') (hB : B ≤ w.heap.size) (hs : ∀ i, S i → B ≤ i) : Below B w0 w' :=
  h0.trans (h.below hB (fun k hk hS => by have := hs k hS; omega))

/-- A table of the call's own, made behind B. -/
structure TI (B : Nat) (w0 w : World) (p : Nat) (t : Tr) : Prop where
  bl : Below B w0 w
  hp : B ≤ p
  tb : Tb w p t
  ow : ∀ i ∈ t.bs, B ≤ i

theorem TI.put {B : Nat} {w0 w w' : World} {p : Nat} {t t' : Tr} {key : ByteArray} {u : Value} (h : TI B w0 w p t) (hp : PutP w w' p t t' key u) : TI B w0 w' p t' := by
  have hz := hp_lt h.tb.blk
  have hB := h.hp
  refine ⟨Kept.belowOf h.bl hp.kp (by omega) (fun i hi => ?_), h.hp, hp.tb, fun i hi => ?_⟩
  · rcases hi with rfl | hi
    · exact h.hp
    · exact h.ow i hi
  · rcases hp.nw i hi with h1 | h1
    · exact h.ow i h1
    · omega
theorem TI.del {B : Nat} {w0 w w' : World} {p : Nat} {t t' : Tr} {key : ByteArray} (h : TI B w0 w p t) (hp : DelP w w' p t t' key) : TI B w0 w' p t' := by
  have hz := hp_lt h.tb.blk
  have hB := h.hp
  refine ⟨Kept.belowOf h.bl hp.kp (by omega) (fun i hi => ?_), h.hp, hp.tb, fun i hi => h.ow i (hp.nw i hi)⟩
  rcases hi with rfl | hi
  · exact h.hp
  · exact h.ow i hi
theorem TI.below {B : Nat} {w0 w w' : World} {p : Nat} {t : Tr} (h : TI B w0 w p t) (hb : Below w.heap.size w w') : TI B w0 w' p t := by
  have hz := hp_lt h.tb.blk
  have hB := h.hp
  exact ⟨h.bl.trans (hb.mono (by omega)), h.hp, h.tb.below hb, h.ow⟩
theorem TI.to {B : Nat} {w0 w : World} {p : Nat} {t : Tr} (h : TI B w0 w p t) : TO w (some ⟨p, 0, none⟩) t := .inr ⟨p, rfl, h.tb⟩

abbrev aB : ByteArray := ⟨#[97]⟩
abbrev bB : ByteArray := ⟨#[98]⟩

theorem kab : kl aB bB = true := by simp [kl, Lib.toList_data, Op.bytesLess]
theorem kba : kl bB aB = false := kl_asymm kab

theorem put_eq {w w' : World} {p : Nat} {t t' : Tr} {key : ByteArray} {u : Value} (h : PutP w w' p t t' key u) (hn : ent key t.toL = none) : ∃ m, t'.toL = ins (m, key, u) t.toL := by
  rcases h.ls with ⟨e, he, _⟩ | ⟨_, hm⟩
  · rw [hn] at he; cases he
  · exact hm

theorem ent_cons_ne {key : ByteArray} {e : En} {l : List En} (h : e.2.1 ≠ key) : ent key (e :: l) = ent key l := by
  unfold ent; rw [List.find?_cons, keq_false h]
theorem ent_cons_eq {e : En} {l : List En} : ent e.2.1 (e :: l) = some e := by
  unfold ent; rw [List.find?_cons]; simp

theorem hab : aB ≠ bB := kl_ne kab

set_option maxRecDepth 100000 in
set_option maxHeartbeats 2000000 in
theorem known_any (w : World) : Calls Try.prog 10 #[] w fun x w' => x = .returned (.bool true) ∧ Below w.heap.size w w' := by
  have N0 := hid (new_any w)
  have P1 := hid (show ∀ w1, TI w.heap.size w w1 w.heap.size .nil → Calls Try.prog 20 #[.pointer (some ⟨w.heap.size, 0, none⟩), .string bB, .int .i64 2] w1 fun x w' => ∃ v, x = .returned v ∧ ∃ t m, TI w.heap.size w w' w.heap.size t ∧ t.toL = [(m, bB, .int .i64 2)] from by
    intro w1 h
    refine (put_any _ bB 2 .nil w1 h.tb (by simp [Tr.n, Tr.toL]) (by decide)).mono ?_
    rintro x w' ⟨t', rfl, hp⟩
    obtain ⟨m, hm⟩ := put_eq hp rfl
    exact ⟨_, rfl, t', m, h.put hp, hm⟩)
  have P2 := hid (show ∀ w1 t m, TI w.heap.size w w1 w.heap.size t ∧ t.toL = [(m, bB, .int .i64 2)] → Calls Try.prog 20 #[.pointer (some ⟨w.heap.size, 0, none⟩), .string aB, .int .i64 1] w1 fun x w' => ∃ v, x = .returned v ∧ ∃ t m n, TI w.heap.size w w' w.heap.size t ∧ t.toL = [(n, aB, .int .i64 1), (m, bB, .int .i64 2)] from by
    rintro w1 t m ⟨h, e⟩
    refine (put_any _ aB 1 t w1 h.tb (by rw [n_of e]; simp) (by decide)).mono ?_
    rintro x w' ⟨t', rfl, hp⟩
    obtain ⟨n, hm⟩ := put_eq hp (by rw [e, ent_cons_ne hab.symm]; rfl)
    refine ⟨_, rfl, t', m, n, h.put hp, ?_⟩
    rw [hm, e]
    have := ins_low (l := []) (r := []) (x := (n, aB, .int .i64 1)) (c := (m, bB, .int .i64 2)) kab
    simpa [ins_nil] using this)
  have G1 := hid (show ∀ w1 t m n, TI w.heap.size w w1 w.heap.size t ∧ t.toL = [(n, aB, .int .i64 1), (m, bB, .int .i64 2)] → Calls Try.prog 22 #[.pointer (some ⟨w.heap.size, 0, none⟩), .string bB] w1 fun x w' => x = .returned (.tuple #[.int .i64 2, .bool true]) ∧ TI w.heap.size w w' w.heap.size t from by
    rintro w1 t m n ⟨h, e⟩
    refine (get_any _ bB t w1 h.to).mono ?_
    rintro x w' ⟨rfl, hb⟩
    refine ⟨?_, h.below hb⟩
    rw [getV, e, ent_cons_ne hab, show ent bB [(m, bB, Value.int .i64 2)] = some (m, bB, Value.int .i64 2) from ent_cons_eq (e := (m, bB, Value.int .i64 2))])
  have X1 := hid (show ∀ w1 t m n, TI w.heap.size w w1 w.heap.size t ∧ t.toL = [(n, aB, .int .i64 1), (m, bB, .int .i64 2)] → Calls Try.prog 31 #[.pointer (some ⟨w.heap.size, 0, none⟩), .string aB] w1 fun x w' => x = .returned (.tuple #[.string bB, .bool true]) ∧ TI w.heap.size w w' w.heap.size t from by
    rintro w1 t m n ⟨h, e⟩
    refine (next_any _ aB t w1 h.to (fun e' he => ?_)).mono ?_
    · rw [e] at he
      simp only [List.mem_cons, List.not_mem_nil, or_false] at he
      rcases he with rfl | rfl
      · show aB.size ≤ _; decide
      · show bB.size ≤ _; decide
    · rintro x w' ⟨rfl, hb⟩
      refine ⟨?_, h.below hb⟩
      have hf : gtrE aB t.toL = some (m, bB, .int .i64 2) := by
        rw [e]
        unfold gtrE
        rw [List.find?_cons, List.find?_cons]
        simp [show kl aB aB = false from kl_irrefl _, kab]
      rw [nextV, hf])
  have D1 := hid (show ∀ w1 t m n, TI w.heap.size w w1 w.heap.size t ∧ t.toL = [(n, aB, .int .i64 1), (m, bB, .int .i64 2)] → Calls Try.prog 25 #[.pointer (some ⟨w.heap.size, 0, none⟩), .string aB] w1 fun x w' => x = .returned (.tuple #[.int .i64 1, .bool true]) ∧ ∃ t', TI w.heap.size w w' w.heap.size t' ∧ t'.n = 1 from by
    rintro w1 t m n ⟨h, e⟩
    refine (delete_some _ aB t w1 h.tb (by rw [n_of e]; simp) (by rw [e]; exact ent_cons_eq (e := (n, aB, Value.int .i64 1)))).mono ?_
    rintro x w' ⟨t', rfl, hp⟩
    refine ⟨rfl, t', h.del hp, ?_⟩
    rw [n_of hp.ls, e]
    have := del_mid (a := []) (b := [(m, bB, .int .i64 2)]) (c := (n, aB, .int .i64 1)) (by rw [← e]; exact h.tb.rs)
    simp only [List.nil_append] at this
    rw [this]
    rfl)
  have LL := hid (show ∀ w1 t, TI w.heap.size w w1 w.heap.size t ∧ t.n = 1 → Calls Try.prog 32 #[.pointer (some ⟨w.heap.size, 0, none⟩)] w1 fun x w' => x = .returned (.int .i64 1) ∧ w' = w1 from by
    rintro w1 t ⟨h, e⟩
    refine (len_any _ t w1 h.to).mono ?_
    rintro x w' ⟨rfl, rfl⟩
    exact ⟨by rw [e]; rfl, rfl⟩)
  generalize hp : w.heap.size = p at *
  have HP := hid hp
  clear hp
  go_enter Try.func10, Try.ntmps10
  go_wp2_with (first
    | (go_at_call 19
       refine N0.out.mono ?_
       rintro e w1 ⟨rfl, ht, hb, -⟩
       have T1 := hid (show TI p w w1 p .nil from ⟨hb, Nat.le_refl _, ht, fun _ h => by cases h⟩)
       clear ht hb N0)
    | (go_at_call 20
       refine (P1.out w1 T1.out).mono ?_
       rintro e w2 ⟨v1, rfl, t1, m1, h1⟩
       have T2 := hid h1
       clear h1 P1)
    | (go_at_call 20
       refine (P2.out w2 t1 m1 T2.out).mono ?_
       rintro e w3 ⟨v2, rfl, t2, m2, n2, h2, e2⟩
       have T3 := hid h2
       have E3 := hid e2
       clear h2 e2 P2)
    | (go_at_call 22
       refine (G1.out w3 t2 m2 n2 ⟨T3.out, E3.out⟩).mono ?_
       rintro e w4 ⟨rfl, h4⟩
       have T4 := hid h4
       clear h4)
    | (go_at_call 31
       refine (X1.out w4 t2 m2 n2 ⟨T4.out, E3.out⟩).mono ?_
       rintro e w5 ⟨rfl, h5⟩
       have T5 := hid h5
       clear h5)
    | (go_at_call 25
       refine (D1.out w5 t2 m2 n2 ⟨T5.out, E3.out⟩).mono ?_
       rintro e w6 ⟨rfl, t3, h6⟩
       have T6 := hid h6
       clear h6)
    | (go_at_call 32
       refine (LL.out w6 t3 T6.out).mono ?_
       rintro e w7 ⟨rfl, e7⟩
       rw [e7]
       clear e7 w7))
  go_ret
  exact ⟨rfl, T6.out.1.bl⟩

end Go.Proofs.Ytkalppcekmlgbab
