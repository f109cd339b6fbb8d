import Derived.Test.YtkalppcekmlgbaaOc
namespace Go.Proofs.Ytkalppcekmlgbaa
open Go.RowKit

abbrev fourW (w : World) : World := (((w.alloc (.cells #[.string ⟨#[]⟩] 9)).alloc (.cells #[.int .i64 0] 3)).alloc (.cells #[.bool true] 4)).alloc (.cells #[.slice none 0 0] 55)

theorem atN {w W : World} {i : Nat} (o : Obj) (h : w.heap.size = W.heap.size + i) : (w.alloc o).heap[W.heap.size + i]? = some o := by
  rw [← h]; exact hp_new w o

theorem fourW_below (w : World) : Below w.heap.size w (fourW w) := (((below_new _ _).alloc (by simp) _).alloc (by simp; omega) _).alloc (by simp; omega) _
theorem fourW_size (w : World) : (fourW w).heap.size = w.heap.size + 4 := by simp [fourW]

/-- While the keys are put. -/
structure OP (w wr : World) (kv : Value) (ks : List ByteArray) (k : Nat) (t : Tr) : Prop where
  ti : TI (w.alloc (.cells #[kv] 55)).heap.size (w.alloc (.cells #[kv] 55)) wr (w.heap.size + 1) t
  kz : Kz ks k t

theorem OP.bk {w wr : World} {kv : Value} {ks : List ByteArray} {k : Nat} {t : Tr} (h : OP w wr kv ks k t) : wr.heap[w.heap.size]? = some (.cells #[kv] 55 (0, 0)) :=
  hp_below (hp_new w _) h.ti.bl (by simp)
theorem OP.bl {w wr : World} {kv : Value} {ks : List ByteArray} {k : Nat} {t : Tr} (h : OP w wr kv ks k t) : Below w.heap.size w wr := below_on (below_new w _) h.ti.bl
theorem OP.put {w wr w' : World} {kv : Value} {ks : List ByteArray} {k : Nat} {t t' : Tr} {key : ByteArray} (h : OP w wr kv ks k t) (hp : PutP wr w' (w.heap.size + 1) t t' key (.int .i64 (k : Nat))) (hk : ks[k]? = some key) : OP w w' kv ks (k + 1) t' :=
  ⟨h.ti.put hp, h.kz.put h.ti.tb hp hk⟩

/-- Behind the loop. -/
structure OE (w w3 : World) (S : Nat) (T : Tr) (lv : Value) : Prop where
  ti : TI w.heap.size w w3 (w.heap.size + 1) T
  bn : w3.heap[S + 1]? = some (.cells #[.int .i64 (T.toL.length : Nat)] 3 (0, 0))
  bo : w3.heap[S + 2]? = some (.cells #[.bool true] 4 (0, 0))
  bv : w3.heap[S + 3]? = some (.cells #[lv] 55 (0, 0))
  ow : w3.ownsRow w.heap.size 9 1 lv T.toL.length (T.toL.map (fun e => Value.string e.2.1))

theorem ord_iter {w wr w1 : World} {kv : Value} {ks : List ByteArray} {k : Nat} {T : Tr} {g1 g2 g3 : Nat} (h : OP w wr kv ks k T) (hk : k ≤ 300 ∧ k ≤ ks.length) (hr : Rf w 1 kv ks.length (ks.map Value.string)) (hsh : ∀ q ∈ ks, q.size ≤ 281474976710656)
    (hi : It w1 g1 g2 g3 (some ⟨w.heap.size + 1, 0, none⟩) ⟨#[]⟩ ⟨#[]⟩) (hb : Below (fourW wr).heap.size (fourW wr) w1) (hg : (fourW wr).heap.size ≤ g1 ∧ (fourW wr).heap.size ≤ g2 ∧ (fourW wr).heap.size ≤ g3) :
    Calls Try.prog 27 #[.func (.func 22) #[] #[.pointer (some ⟨wr.heap.size + 2, 0, none⟩), .pointer (some ⟨wr.heap.size + 1, 0, none⟩), .pointer (some ⟨wr.heap.size, 0, none⟩), .pointer (some ⟨w.heap.size, 0, none⟩), .pointer (some ⟨wr.heap.size + 3, 0, none⟩)], .pointer (some ⟨g1, 0, none⟩), .pointer (some ⟨g2, 0, none⟩), .pointer (some ⟨g3, 0, none⟩)] w1
      fun e w3 => e = .returned (.tuple #[]) ∧ ∃ lv, OE w w3 wr.heap.size T lv := by
  have hz := fourW_size wr
  rw [hz] at hg
  have hbs := hb.size
  rw [hz] at hbs
  have hp := hp_lt h.ti.tb.blk
  have hkb := hp_lt h.bk
  have b1 := fourW_below wr
  have b2 := below_on b1 hb
  have hwr := h.bl.size
  let F : Ok := ⟨w, w.heap.size + 1, w.heap.size, wr.heap.size, w1.heap.size, g1, g2, g3, T, kv, ks⟩
  have ok : F.ok := ⟨⟨Nat.le_refl _, hkb⟩, by show wr.heap.size + 3 < w1.heap.size; omega, ⟨Nat.le_succ _, hp⟩, fun i hi => h.ti.tb.at_.lt i hi, ⟨by show wr.heap.size + 3 < g1; omega, hp_lt hi.t⟩, ⟨by show wr.heap.size + 3 < g2; omega, hp_lt hi.f⟩, ⟨by show wr.heap.size + 3 < g3; omega, hp_lt hi.e⟩, ⟨k, hk.1, hk.2, h.kz⟩, hsh, fun j hj hne => hr.there (by intro e; exact hne (by simpa using e)) j hj⟩
  have ox1 : Ox w.heap.size wr.heap.size kv (fourW wr) (.slice none 0 0) (0 : Nat) ⟨#[]⟩ := by
    refine ⟨hp_below h.bk b1 hkb, ?_, ?_, ?_, ?_⟩
    · exact hp_alloc (hp_alloc (hp_alloc (atN (i := 0) _ (by simp)) _) _) _
    · exact hp_alloc (hp_alloc (atN _ (by simp)) _) _
    · exact hp_alloc (atN _ (by simp)) _
    · exact atN _ (by simp)
  refine (iterX22 (wr.heap.size + 2) (wr.heap.size + 1) wr.heap.size w.heap.size (wr.heap.size + 3) (ord_body F ok) T.toL.length T w1 ?_ hi).mono ?_
  · intro gf gl gt w2 hb2 q1 q2 q3 hs
    have b3 := below_on b2 hb2
    have ti3 : TI w.heap.size w w2 (w.heap.size + 1) T := ⟨below_on h.bl b3, Nat.le_succ _, h.ti.tb.below b3, fun i hi => by have := h.ti.ow i hi; simp at this; omega⟩
    refine ⟨0, .slice none 0 0, rfl, ?_, rfl, ⟨fun _ => rfl, fun h0 => by omega⟩, Nat.zero_le _, rfl, ti3, ⟨hp_below hi.t hb2 (hp_lt hi.t), hp_below hi.f hb2 (hp_lt hi.f), hp_below hi.e hb2 (hp_lt hi.e)⟩, hr.below (below_on h.bl b3), World.ownsRow_nil _ _ _ _, fun k hk => (by cases hk), ⟨⟨q1, hp_lt hs.f⟩, ⟨q2, hp_lt hs.l⟩, ⟨q3, hp_lt hs.t⟩⟩⟩
    exact (ox1.kept (Kept.ofBelow hb) id (fun _ _ _ e => e)).kept (Kept.ofBelow hb2) id (fun _ _ _ e => e)
  · rintro e w3 ⟨rfl, ⟨gf, gl, gt, m, st, last, t, ⟨n, lv, oi⟩, hen⟩ | hf⟩
    · have hnx := oi.nx
      have het : t = T := oi.et
      rw [het] at hen
      have hn : n = T.toL.length := by
        have h1 := oi.nn
        have h1' : n ≤ T.toL.length := h1
        rcases Nat.lt_or_ge n T.toL.length with h2 | h2
        · have h3 : nx st last T.toL = some T.toL[n] := by rw [show nx st last T.toL = T.toL[n]? from hnx]; exact List.getElem?_eq_getElem h2
          have := (hen _ _ _ h3).1
          exact absurd rfl this
        · omega
      subst hn
      refine ⟨rfl, lv, oi.ti, oi.ox.bn, oi.ox.bo, oi.ox.bv, ?_⟩
      have := oi.ow
      unfold Ok.keys at this
      rw [show F.T = T from rfl, List.take_length] at this
      exact this
    · exact hf.elim

end Go.Proofs.Ytkalppcekmlgbaa
