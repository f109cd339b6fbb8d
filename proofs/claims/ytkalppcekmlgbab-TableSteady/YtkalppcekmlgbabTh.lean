import Derived.Test.YtkalppcekmlgbabTg
namespace Go.Proofs.Ytkalppcekmlgbab
open Go.RowKit

theorem Try.info9 : (Try.prog.info? 9).map (fun i => (i.zero, i.size, i.bytes)) = some (some (.string ⟨#[]⟩), 1, 16) := by kernel_rfl
theorem fnNilT (g1 g2 g3 : Nat) (W : World) : (binOp .eql 56 (.func (.func 40) #[] #[.pointer (some ⟨g1, 0, none⟩), .pointer (some ⟨g2, 0, none⟩), .pointer (some ⟨g3, 0, none⟩)]) .nilFunc).run Try.prog W = .ok (.bool false) W := by kernel_rfl

theorem atN {w W : World} {i : Nat} (o : Obj) (h : w.heap.size = W.heap.size + i) : (w.alloc o).heap[W.heap.size + i]? = some o := by
  rw [← h]; exact hp_new w o
abbrev twoG (w : World) (ov gv : Value) : World := (w.alloc (.cells #[ov] 22)).alloc (.cells #[gv] 22)
theorem twoG_size (w : World) (ov gv : Value) : (twoG w ov gv).heap.size = w.heap.size + 2 := by simp [twoG]
theorem twoG_below (w : World) (ov gv : Value) : Below w.heap.size w (twoG w ov gv) := (below_new _ _).alloc (by simp) _

/-- The boxes and the table, ahead of the loop over it. -/
structure Vq (w wr : World) (D : Nat) (ov gv : Value) (t : Tr) : Prop where
  bo : wr.heap[w.heap.size]? = some (.cells #[ov] 22 (0, 0))
  bg : wr.heap[w.heap.size + 1]? = some (.cells #[gv] 22 (0, 0))
  bt : wr.heap[D]? = some (.cells #[.pointer (some ⟨w.heap.size + 2, 0, none⟩)] 49 (0, 0))
  tb : Tb wr (w.heap.size + 2) t
  ow : ∀ i ∈ t.bs, w.heap.size ≤ i
  bl : Below w.heap.size w wr
  hD : w.heap.size + 1 < D

theorem Vq.below {w wr w' : World} {D : Nat} {ov gv : Value} {t : Tr} (h : Vq w wr D ov gv t) (hb : Below wr.heap.size wr w') : Vq w w' D ov gv t :=
  ⟨hp_below h.bo hb (hp_lt h.bo), hp_below h.bg hb (hp_lt h.bg), hp_below h.bt hb (hp_lt h.bt), h.tb.below hb, h.ow, below_on h.bl hb, h.hD⟩
theorem Vq.put {w wr w' : World} {D : Nat} {ov gv : Value} {t t' : Tr} {key : ByteArray} {u : Value} (h : Vq w wr D ov gv t) (hp : PutP wr w' (w.heap.size + 2) t t' key u) : Vq w w' D ov gv t' := by
  refine ⟨hp_kept h.bo hp.kp (tb_not h.tb h.bo (by decide)), hp_kept h.bg hp.kp (tb_not h.tb h.bg (by decide)), hp_kept h.bt hp.kp (tb_not h.tb h.bt (by decide)), hp.tb, fun i hi => ?_, Kept.belowOf h.bl hp.kp (by have := hp_lt h.tb.blk; omega) (fun i hi => ?_), h.hD⟩
  · rcases hp.nw i hi with h1 | h1
    · exact h.ow i h1
    · exact Nat.le_trans h.bl.size h1
  · rcases hi with rfl | hi
    · omega
    · exact h.ow i hi
/-- An append to a row of texts. -/
theorem Vq.grown {w wr w' : World} {D : Nat} {ov gv : Value} {t : Tr} {lv : Value} {n : Nat} {xs : List Value} (h : Vq w wr D ov gv t) (ho : wr.ownsRow w.heap.size 9 1 lv n xs) (hk : Kept (fun j => lv.ownBlock = some j) wr w') : Vq w w' D ov gv t := by
  refine ⟨hp_kept h.bo hk (own_ne_blk ho h.bo (by decide)), hp_kept h.bg hk (own_ne_blk ho h.bg (by decide)), hp_kept h.bt hk (own_ne_blk ho h.bt (by decide)), h.tb.kept hk (own_ne_blk ho h.tb.blk (by decide)) (fun i hi => ?_), h.ow, Kept.belowOf h.bl hk (by have := hp_lt h.tb.blk; omega) (fun i hi => (ho.lt i hi).1), h.hD⟩
  obtain ⟨key, v, hm⟩ := bs_mem hi
  obtain ⟨a, c, d, e⟩ := h.tb.at_.mem i key v hm
  exact own_ne_blk ho e (by decide)

/-- In the first loop: every key has 0. -/
structure V1 (w wr : World) (D : Nat) (ov gv : Value) (k : Nat) (t : Tr) : Prop where
  vq : Vq w wr D ov gv t
  z0 : ∀ e ∈ t.toL, e.2.2 = .int .i64 0 ∧ e.2.1.size ≤ 281474976710656
  ln : t.toL.length ≤ k

theorem V1.put {w wr w' : World} {D : Nat} {ov gv : Value} {k : Nat} {t t' : Tr} {key : ByteArray} (h : V1 w wr D ov gv k t) (hp : PutP wr w' (w.heap.size + 2) t t' key (.int .i64 0)) (hk : key.size ≤ 281474976710656) : V1 w w' D ov gv (k + 1) t' := by
  obtain ⟨h1, h2⟩ := put_mem h.vq.tb hp
  refine ⟨h.vq.put hp, fun e he => ?_, by have := h.ln; omega⟩
  rcases h1 e he with ⟨e1, e2⟩ | ⟨e0, hm, e1, e2⟩
  · exact ⟨e2, by rw [e1]; exact hk⟩
  · have := h.z0 e0 hm
    rw [e1, e2] at this
    exact this

/-- In the second loop: s keys have 1. -/
structure V2 (w wr : World) (D : Nat) (ov gv : Value) (os gs : List ByteArray) (k s : Nat) (t : Tr) (lv : Value) : Prop where
  vq : Vq w wr D ov gv t
  gd : Good (tcP os gs) t.toL
  cn : t.toL.countP is1 = s
  ln : t.toL.length ≤ 300
  sk : s ≤ k
  ow : ∃ xs, wr.ownsRow w.heap.size 9 1 lv s xs

theorem V1.two {w wr : World} {D : Nat} {ov gv : Value} {k : Nat} {t : Tr} (os gs : List ByteArray) (h : V1 w wr D ov gv k t) (hk : k ≤ 300) : V2 w wr D ov gv os gs 0 0 t (.slice none 0 0) := by
  have hz : ∀ e ∈ t.toL, is1 e = false := fun e he => by unfold is1; rw [(h.z0 e he).1]; rfl
  refine ⟨h.vq, ⟨fun e he => ⟨0, (h.z0 e he).1⟩, fun e he => (h.z0 e he).2, fun e he hi => by rw [hz e he] at hi; cases hi⟩, ?_, Nat.le_trans h.ln hk, Nat.le_refl _, [], World.ownsRow_nil _ _ _ _⟩
  rw [List.countP_eq_zero]
  intro e he
  simp [hz e he]

theorem V2.skip {w wr w' : World} {D : Nat} {ov gv : Value} {os gs : List ByteArray} {k s : Nat} {t : Tr} {lv : Value} (h : V2 w wr D ov gv os gs k s t lv) (hb : Below wr.heap.size wr w') : V2 w w' D ov gv os gs (k + 1) s t lv := by
  obtain ⟨xs, ho⟩ := h.ow
  exact ⟨h.vq.below hb, h.gd, h.cn, h.ln, Nat.le_succ_of_le h.sk, xs, ownsRow_kept ho (Kept.ofBelow hb) (fun _ _ e => e)⟩

theorem V2.more {w wr w2 w3 : World} {D : Nat} {ov gv : Value} {os gs : List ByteArray} {k s : Nat} {t t' : Tr} {lv lv' : Value} {key : ByteArray} {c : En} {xs ys : List Value} (h : V2 w wr D ov gv os gs k s t lv) (ho : wr.ownsRow w.heap.size 9 1 lv s xs) (hk : Kept (fun j => lv.ownBlock = some j) wr w2) (ho2 : w2.ownsRow w.heap.size 9 1 lv' (s + 1) ys) (hp : PutP w2 w3 (w.heap.size + 2) t t' key (.int .i64 1)) (hc : ent key t.toL = some c) (hv : is1 c = false) (hn : ¬ tcP os gs key) (hz : key.size ≤ 281474976710656) : V2 w w3 D ov gv os gs (k + 1) (s + 1) t' lv' := by
  have v2 := h.vq.grown ho hk
  obtain ⟨p1, p2⟩ := put_one v2.tb hp hc hv
  refine ⟨v2.put hp, put_good v2.tb hp h.gd hz (fun _ => hn), by rw [p1, h.cn], by rw [p2]; exact h.ln, Nat.succ_le_succ h.sk, ys, ownsRow_kept ho2 hp.kp (fun j hj e => ?_)⟩
  obtain ⟨cs, e9⟩ := owns_block ho2 j hj
  exact tb_not v2.tb e9 (by decide) e

abbrev fourT (w : World) : World := (((w.alloc (.cells #[.int .i64 0] 3)).alloc (.cells #[.int .i64 0] 3)).alloc (.cells #[.string ⟨#[]⟩] 9)).alloc (.cells #[.bool true] 4)
theorem fourT_below (w : World) : Below w.heap.size w (fourT w) := (((below_new _ _).alloc (by simp) _).alloc (by simp; omega) _).alloc (by simp; omega) _

theorem std_iter {w wr w1 : World} {D : Nat} {ov gv : Value} {os gs : List ByteArray} {k s : Nat} {t : Tr} {lv : Value} {g1 g2 g3 : Nat} (h : V2 w wr D ov gv os gs k s t lv) (ho : Rf w 1 ov os.length (os.map Value.string)) (hgo : Rf w 1 gv gs.length (gs.map Value.string)) (hsz : ∀ q ∈ os, q.size ≤ 281474976710656) (hi : It w1 g1 g2 g3 (some ⟨w.heap.size + 2, 0, none⟩) ⟨#[]⟩ ⟨#[]⟩) (hb : Below (fourT wr).heap.size (fourT wr) w1) (hg : (fourT wr).heap.size ≤ g1 ∧ (fourT wr).heap.size ≤ g2 ∧ (fourT wr).heap.size ≤ g3) :
    Calls Try.prog 40 #[.func (.func 24) #[] #[.pointer (some ⟨wr.heap.size + 3, 0, none⟩), .pointer (some ⟨wr.heap.size + 1, 0, none⟩), .pointer (some ⟨wr.heap.size + 2, 0, none⟩), .pointer (some ⟨wr.heap.size, 0, none⟩), .pointer (some ⟨w.heap.size, 0, none⟩), .pointer (some ⟨D, 0, none⟩), .pointer (some ⟨w.heap.size + 1, 0, none⟩)], .pointer (some ⟨g1, 0, none⟩), .pointer (some ⟨g2, 0, none⟩), .pointer (some ⟨g3, 0, none⟩)] w1
      fun e w3 => e = .returned (.tuple #[]) ∧ w3.heap[wr.heap.size]? = some (.cells #[.int .i64 (s : Nat)] 3 (0, 0)) ∧ w3.heap[wr.heap.size + 3]? = some (.cells #[.bool true] 4 (0, 0)) ∧ Hid (Below w.heap.size w w3) := by
  have hz : (fourT wr).heap.size = wr.heap.size + 4 := by simp [fourT]
  rw [hz] at hg
  have hbs := hb.size
  rw [hz] at hbs
  have b1 := fourT_below wr
  have b2 := below_on b1 hb
  have hDlt := hp_lt h.vq.bt
  have v1 := h.vq.below b1
  have vq := h.vq.below b2
  have hne : ∀ {l : List ByteArray}, l ≠ [] → l.map Value.string ≠ [] := fun hl e => hl (by simpa using e)
  let F : Vk := ⟨w, D, wr.heap.size, w1.heap.size, w.heap.size + 2, ov, gv, os, gs, g1, g2, g3, s⟩
  have hcnt : s ≤ 300 := by rw [← h.cn]; exact Nat.le_trans List.countP_le_length h.ln
  have ok : F.ok := ⟨⟨h.vq.hD, hDlt⟩, by show wr.heap.size + 3 < w1.heap.size; omega, ⟨hp_lt hi.t, hp_lt hi.f, hp_lt hi.e⟩, ⟨by show wr.heap.size + 3 < g1; omega, by show wr.heap.size + 3 < g2; omega, by show wr.heap.size + 3 < g3; omega⟩, Nat.le_add_right _ _, fun hx j hj => ho.there (hne hx) j hj, fun hx j hj => hgo.there (hne hx) j hj, hsz, hcnt⟩
  have hc1 : ∀ q : En → Bool, t.toL.countP (fun e => q e && ah false ⟨#[]⟩ e.2.1) = t.toL.countP q := fun q => by
    congr 1
    funext e
    simp [ah]
  have hux : Ux w.heap.size D wr.heap.size w1 ov gv (w.heap.size + 2) (0 : Nat) (0 : Nat) ⟨#[]⟩ := by
    have K := Kept.ofBelow hb
    refine ⟨vq.bo, vq.bg, vq.bt, hp_kept ?_ K id, hp_kept ?_ K id, hp_kept ?_ K id, hp_kept ?_ K id⟩
    · exact hp_alloc (hp_alloc (hp_alloc (hp_new _ _) _) _) _
    · exact hp_alloc (hp_alloc (atN _ (by simp)) _) _
    · exact hp_alloc (atN _ (by simp)) _
    · exact atN _ (by simp)
  refine (iter24 (wr.heap.size + 3) (wr.heap.size + 1) (wr.heap.size + 2) wr.heap.size w.heap.size D (w.heap.size + 1) (std_body F ok) (600 + t.toL.length) t w1 ⟨0, 0, hux, rfl, fun _ => rfl, vq.tb, vq.ow, h.gd, ?_, ?_, ?_, ?_, hi, ho.below vq.bl, hgo.below vq.bl, Nat.le_refl _, vq.bl⟩).mono ?_
  · rw [hc1, h.cn]; show 0 + s = s; omega
  · have : t.toL.countP (fun _ => true) = t.toL.length := by simp
    rw [hc1 (fun _ => true), this]
    omega
  · have := h.ln; omega
  · have := h.ln; omega
  · rintro e w3 ⟨rfl, ⟨m, st, last, t', ⟨f, n, vi⟩, hen⟩ | hf⟩
    · have hnone : nx st last t'.toL = none := by
        cases hq : nx st last t'.toL with
        | none => rfl
        | some e => exact absurd rfl (hen e.1 e.2.1 e.2.2 hq).1
      have hcc := vi.cc
      rw [nx_end vi.s2 hnone is1] at hcc
      have hfs : f = s := hcc
      subst hfs
      exact ⟨rfl, vi.ux.bf, vi.ux.bk, hid vi.bl⟩
    · exact hf.elim

end Go.Proofs.Ytkalppcekmlgbab
