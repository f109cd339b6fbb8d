import Derived.Test.YthcoigbkdbkojaaGreatK29
import Derived.Laws.StructEq
namespace Go.Proofs.YthcoigbkdbkojaaGreat
open Go.RowKit Go.MapKept
open V (kl)

/-- Within one of these looks. -/
def inL (lk : List (ByteArray × ByteArray)) (k : ByteArray) : Prop := ∃ x ∈ lk, kl k x.1 = false ∧ (x.2 = emp ∨ kl x.2 k = false)
/-- Two states that are alike wherever was looked. -/
def Agr (L T : KV) (lk : List (ByteArray × ByteArray)) : Prop := ∀ k, inL lk k → lkp k T = lkp k L

theorem Agr.sub {L T : KV} {lk lk' : List (ByteArray × ByteArray)} (h : Agr L T lk) (hs : ∀ x ∈ lk', x ∈ lk) : Agr L T lk' := by
  rintro k ⟨x, hx, h1⟩
  exact h k ⟨x, hs x hx, h1⟩

theorem seen_agr {L T l : KV} {k : ByteArray} (h : lkp k T = lkp k L) : seenF T l k = seenF L l k := by
  unfold seenF
  rw [h]
theorem vis_agr {L T l : KV} {k : ByteArray} (h : lkp k T = lkp k L) : vis T l k ↔ vis L l k := by
  unfold vis
  rw [seen_agr h]

open Classical in
theorem least_of (P : ByteArray → Prop) : ∀ ks : List ByteArray, (∃ r ∈ ks, P r ∧ ∀ k ∈ ks, P k → kl k r = false) ∨ ∀ k ∈ ks, ¬ P k
  | [] => .inr (fun _ h => nomatch h)
  | y :: ks => by
    rcases least_of P ks with ⟨r, hr, h1, h2⟩ | h
    · by_cases hy : P y
      · cases hk : kl y r
        · refine .inl ⟨r, List.mem_cons_of_mem _ hr, h1, fun k hm hp => ?_⟩
          rcases List.mem_cons.1 hm with rfl | hm
          · exact hk
          · exact h2 k hm hp
        · refine .inl ⟨y, List.mem_cons_self, hy, fun k hm hp => ?_⟩
          rcases List.mem_cons.1 hm with rfl | hm
          · exact V.kl_irrefl _
          · have h3 := h2 k hm hp
            cases e : kl k y
            · rfl
            · rw [V.kl_trans e hk] at h3
              cases h3
      · refine .inl ⟨r, List.mem_cons_of_mem _ hr, h1, fun k hm hp => ?_⟩
        rcases List.mem_cons.1 hm with rfl | hm
        · exact absurd hp hy
        · exact h2 k hm hp
    · by_cases hy : P y
      · refine .inl ⟨y, List.mem_cons_self, hy, fun k hm hp => ?_⟩
        rcases List.mem_cons.1 hm with rfl | hm
        · exact V.kl_irrefl _
        · exact absurd hp (h k hm)
      · refine .inr (fun k hm hp => ?_)
        rcases List.mem_cons.1 hm with rfl | hm
        · exact hy hp
        · exact h k hm hp

theorem abv_spec {L l : KV} (hL : VOk L) (hK : KOk l) (to text : ByteArray) : AbP L l text to (abv L l to text) := by
  have hex : ∃ r, AbP L l text to r := by
    rcases least_of (fun k => inB text to k ∧ vis L l k) (L.map Prod.fst ++ l.map Prod.fst) with ⟨r, hr, ⟨h1, h2⟩, h3⟩ | h
    · refine ⟨r, .inr ⟨h1, h2⟩, fun k hk hv => ⟨isKey_ne (vis_key hL hK h2).1, h3 k (vis_key hL hK hv).2 ⟨hk, hv⟩⟩⟩
    · exact ⟨emp, .inl rfl, fun k hk hv => absurd ⟨hk, hv⟩ (h k (vis_key hL hK hv).2)⟩
  obtain ⟨r, hr⟩ := hex
  rw [abv_eq hr]
  exact hr

/-- The next key is the same in both, if both are alike up to it. -/
theorem abv_agr {L T l : KV} (hL : VOk L) (hK : KOk l) {to text : ByteArray} (h : ∀ k, inB text to k → (abv L l to text = emp ∨ kl (abv L l to text) k = false) → lkp k T = lkp k L) : abv T l to text = abv L l to text := by
  refine abv_eq ?_
  have hs := abv_spec hL hK to text
  generalize abv L l to text = r at hs h
  refine ⟨?_, fun k hk hv => ?_⟩
  · rcases hs.1 with e | ⟨h1, h2⟩
    · exact .inl e
    · exact .inr ⟨h1, (vis_agr (h r h1 (.inr (V.kl_irrefl _)))).2 h2⟩
  · rcases hs.1 with e | ⟨h1, h2⟩
    · exact absurd e (hs.2 k hk ((vis_agr (h k hk (.inl e))).1 hv)).1
    · have hne : r ≠ emp := (hs.2 r h1 h2).1
      refine ⟨hne, ?_⟩
      cases e : kl k r
      · rfl
      · have h3 := (hs.2 k hk ((vis_agr (h k hk (.inr (V.kl_asymm e)))).1 hv)).2
        rw [e] at h3
        cases h3

/-- What through comes to is the same in both, if both are alike from where it starts to the last key that it went through. -/
theorem thr_agr {L T l : KV} (hL : VOk L) (hK : KOk l) {α : Type} {fL fT : α → ByteArray → α × Int} (hf : ∀ a k, lkp k T = lkp k L → fT a k = fL a k) {to : ByteArray} :
    ∀ (m : Nat) (k : ByteArray) (a : α), (k = emp ∨ to = emp ∨ kl to k = false) → (∀ y, kl y k = false → ((thr (abv L l to) fL to m k a).2.2 = emp ∨ kl (thr (abv L l to) fL to m k a).2.2 y = false) → lkp y T = lkp y L) →
      thr (abv T l to) fT to m k a = thr (abv L l to) fL to m k a
  | 0, _, _, _, _ => rfl
  | m + 1, k, a, hk, h => by
    by_cases e : k = emp
    · subst e
      rw [thr_end, thr_end]
    · have hk' := hk.resolve_left e
      have hC : ∀ k0 y, kl y k0 = false → abv L l to y = emp ∨ kl (abv L l to y) k0 = false := by
        intro k0 y hy
        rcases abv_cases L l to y with h | ⟨h, -⟩
        · exact .inl h
        · exact .inr (V.kl_asymm (V.kl_le' hy h.1))
      have hl0 := thr_last (f := fL) (to := to) (C := fun y => kl y k = false) (hC k) (m + 1) k a (.inr (V.kl_irrefl _))
      have hlast : (thr (abv L l to) fL to (m + 1) k a).2.2 = emp ∨ kl (thr (abv L l to) fL to (m + 1) k a).2.2 k = false := by
        rcases hl0 with h1 | h1
        · rw [h1]; exact hk'
        · exact .inr h1
      have hfk : fT a k = fL a k := hf a k (h k (V.kl_irrefl _) hlast)
      unfold thr at h ⊢
      rw [if_neg e] at h ⊢
      rw [if_neg e, hfk]
      by_cases hs : m = 0 ∨ (fL a k).2 ≠ 0
      · rw [if_pos hs, if_pos hs]
      · rw [if_neg hs] at h ⊢
        rw [if_neg hs]
        have hr := abv_cases L l to k
        obtain ⟨r, hr0⟩ : ∃ r, abv L l to k = r := ⟨_, rfl⟩
        rw [hr0] at hr h ⊢
        have hin : r = emp ∨ to = emp ∨ kl to r = false := by
          rcases hr with h1 | ⟨h1, -⟩
          · exact .inl h1
          · exact .inr h1.2
        have hl1 := thr_last (f := fL) (to := to) (C := fun y => kl y r = false) (hC r) m r (fL a k).1 (.inr (V.kl_irrefl _))
        have hnx : abv T l to k = r := by
          rw [← hr0]
          refine abv_agr hL hK (fun y hy hry => ?_)
          rw [hr0] at hry
          refine h y (V.kl_asymm hy.1) ?_
          rcases hry with h1 | h1
          · subst h1
            rw [thr_end]
            exact hy.2
          · rcases hl1 with h2 | h2
            · rw [h2]; exact hy.2
            · refine .inr ?_
              cases e2 : kl (thr (abv L l to) fL to m r (fL a k).1).2.2 y
              · rfl
              · have h3 := V.kl_le e2 h1
                rw [h2] at h3
                cases h3
        rw [hnx]
        rcases hr with h1 | ⟨h1, -⟩
        · subst h1
          rw [thr_end, thr_end]
        · refine thr_agr hL hK hf m r (fL a k).1 hin (fun y hy hy2 => h y ?_ hy2)
          cases e2 : kl y k
          · rfl
          · rw [V.kl_trans e2 h1.1] at hy
            cases hy

/-- What sum and count come to. -/
theorem thr0_agr {L T l : KV} (hL : VOk L) (hK : KOk l) {fL fT : Vd → ByteArray → Vd × Int} (hf : ∀ a k, lkp k T = lkp k L → fT a k = fL a k) {rb rc : Vd} (hgo : ¬ (bKey rc ≠ emp ∧ kl (bKey rc) (bKey rb) = true)) (n : Nat) (a : Vd)
    (h : ∀ y, kl y (bKey rb) = false → ((thr (abv L l (bKey rc)) fL (bKey rc) n (fkey (bKey rb) (seenF L l (bKey rb)) (abv L l (bKey rc))) a).2.2 = emp ∨ kl (thr (abv L l (bKey rc)) fL (bKey rc) n (fkey (bKey rb) (seenF L l (bKey rb)) (abv L l (bKey rc))) a).2.2 y = false) → lkp y T = lkp y L) :
    thr (abv T l (bKey rc)) fT (bKey rc) n (fkey (bKey rb) (seenF T l (bKey rb)) (abv T l (bKey rc))) a = thr (abv L l (bKey rc)) fL (bKey rc) n (fkey (bKey rb) (seenF L l (bKey rb)) (abv L l (bKey rc))) a := by
  have hlast := look_thr (L := L) (l := l) (f := fL) (n := n) (a := a) hgo
  have hse : seenF T l (bKey rb) = seenF L l (bKey rb) := seen_agr (h _ (V.kl_irrefl _) hlast)
  have hto : bKey rc = emp ∨ kl (bKey rc) (bKey rb) = false := by
    by_cases e : bKey rc = emp
    · exact .inl e
    · refine .inr ?_
      cases hk : kl (bKey rc) (bKey rb)
      · rfl
      · exact absurd ⟨e, hk⟩ hgo
  rw [hse]
  unfold fkey at h hlast ⊢
  by_cases h0 : bKey rb ≠ emp ∧ (seenF L l (bKey rb)).k ≠ 0
  · rw [if_pos h0] at h ⊢
    rw [if_pos h0]
    exact thr_agr hL hK hf n (bKey rb) a (.inr hto) h
  · rw [if_neg h0] at h hlast ⊢
    rw [if_neg h0]
    have hr := abv_cases L l (bKey rc) (bKey rb)
    obtain ⟨r, hr0⟩ : ∃ r, abv L l (bKey rc) (bKey rb) = r := ⟨_, rfl⟩
    rw [hr0] at hr h hlast ⊢
    have hl1 := thr_last (f := fL) (to := bKey rc) (C := fun y => kl y r = false) (fun k hk => by
      rcases abv_cases L l (bKey rc) k with h | ⟨h, -⟩
      · exact .inl h
      · exact .inr (V.kl_asymm (V.kl_le' hk h.1))) n r a (.inr (V.kl_irrefl _))
    have hnx : abv T l (bKey rc) (bKey rb) = r := by
      rw [← hr0]
      refine abv_agr hL hK (fun y hy hry => ?_)
      rw [hr0] at hry
      refine h y (V.kl_asymm hy.1) ?_
      rcases hry with h1 | h1
      · subst h1
        cases n with
        | zero => exact hy.2
        | succ n => rw [thr_end]; exact hy.2
      · rcases hl1 with h2 | h2
        · rw [h2]; exact hy.2
        · refine .inr ?_
          cases e2 : kl (thr (abv L l (bKey rc)) fL (bKey rc) n r a).2.2 y
          · rfl
          · have h3 := V.kl_le e2 h1
            rw [h2] at h3
            cases h3
    rw [hnx]
    rcases hr with h1 | ⟨h1, -⟩
    · subst h1
      cases n with
      | zero => rfl
      | succ n => rw [thr_end, thr_end]
    · refine thr_agr hL hK hf n r a (.inr h1.2) (fun y hy hy2 => h y ?_ hy2)
      cases e2 : kl y (bKey rb)
      · rfl
      · rw [V.kl_trans e2 h1.1] at hy
        cases hy

/-- Where an instruction has looked. -/
theorem step_lk (dig : Int → List Int) (L : KV) (al : List Vd) (pc : Int) (x : Ins) (q : Qm) (o : Nat) (h1 : 1 ≤ o) (h2 : o ≤ 15) : ∀ y ∈ q.lk, y ∈ (stepQ dig L al pc x q o).1.lk := by
  have hr : ∀ (a : Int) (R : Vd × Int), (qRck q pc a R).1.lk = q.lk := by
    intro a R
    unfold qRck
    split <;> rfl
  have ht : ∀ (R : Vd × Int × ByteArray), ∀ y ∈ q.lk, y ∈ (qThr q pc x R).1.lk := by
    intro R y hy
    unfold qThr
    split
    · split
      · split
        · exact hy
        · split <;> exact List.mem_append_left _ hy
      · exact hy
    · exact hy
  intro y hy
  rcases (by omega : o = 1 ∨ o = 2 ∨ o = 3 ∨ o = 4 ∨ o = 5 ∨ o = 6 ∨ o = 7 ∨ o = 8 ∨ o = 9 ∨ o = 10 ∨ o = 11 ∨ o = 12 ∨ o = 13 ∨ o = 14 ∨ o = 15) with rfl | rfl | rfl | rfl | rfl | rfl | rfl | rfl | rfl | rfl | rfl | rfl | rfl | rfl | rfl
  · exact hy
  · exact hy
  · rw [stepQ_3]
    split
    · split
      · exact hy
      · exact List.mem_append_left _ hy
    · exact hy
  · rw [stepQ_4]
    split <;> exact hy
  · rw [stepQ_5]
    split <;> exact hy
  · rw [show (stepQ dig L al pc x q 6).1.lk = q.lk from hr _ _]; exact hy
  · rw [show (stepQ dig L al pc x q 7).1.lk = q.lk from hr _ _]; exact hy
  · rw [show (stepQ dig L al pc x q 8).1.lk = q.lk from hr _ _]; exact hy
  · rw [show (stepQ dig L al pc x q 9).1.lk = q.lk from hr _ _]; exact hy
  · exact hy
  · exact hy
  · exact ht _ y hy
  · exact ht _ y hy
  · rw [stepQ_14]
    split
    · exact List.mem_append_left _ hy
    · exact hy
  · show y ∈ ((if q.td.length = 64 then (q, pc, 5) else ({ q with td := q.td ++ [q.rg x.a] }, pc, 0) : Qr)).1.lk
    split <;> exact hy

theorem qthr_agr {L T : KV} {q : Qm} (hL : VOk L) (hK : KOk q.l) (pc : Int) (x : Ins) {fL fT : Vd → ByteArray → Vd × Int} (hf : ∀ a k, lkp k T = lkp k L → fT a k = fL a k) (n : Nat) (a : Vd)
    (h : Agr L T (qThr q pc x (thr (abv L q.l (bKey (q.rg x.c))) fL (bKey (q.rg x.c)) n (fkey (bKey (q.rg x.b)) (seenF L q.l (bKey (q.rg x.b))) (abv L q.l (bKey (q.rg x.c)))) a)).1.lk) :
    qThr q pc x (thr (abv T q.l (bKey (q.rg x.c))) fT (bKey (q.rg x.c)) n (fkey (bKey (q.rg x.b)) (seenF T q.l (bKey (q.rg x.b))) (abv T q.l (bKey (q.rg x.c)))) a) = qThr q pc x (thr (abv L q.l (bKey (q.rg x.c))) fL (bKey (q.rg x.c)) n (fkey (bKey (q.rg x.b)) (seenF L q.l (bKey (q.rg x.b))) (abv L q.l (bKey (q.rg x.c)))) a) := by
  by_cases hB : bErr (q.rg x.b) = 0
  · by_cases hC : bErr (q.rg x.c) = 0
    · by_cases hn : qNone q x
      · unfold qThr
        simp only [if_pos hB, if_pos hC, if_pos hn]
      · rw [thr0_agr hL hK hf hn n a]
        intro y hy hy2
        refine h y ?_
        unfold qThr
        simp only [if_pos hB, if_pos hC, if_neg hn]
        split
        · exact ⟨_, List.mem_append_right _ (List.mem_singleton.2 rfl), hy, hy2⟩
        · exact ⟨_, List.mem_append_right _ (List.mem_singleton.2 rfl), hy, hy2⟩
    · unfold qThr
      simp only [if_pos hB, if_neg hC]
  · unfold qThr
    simp only [if_neg hB]

/-- An instruction does the same on two states that are alike where it has looked. -/
theorem step_agr {dig : Int → List Int} {L T : KV} {al : List Vd} {pc : Int} {x : Ins} {q : Qm} (hL : VOk L) (hK : KOk q.l) (o : Nat) (h1 : 1 ≤ o) (h2 : o ≤ 15) (h : Agr L T (stepQ dig L al pc x q o).1.lk) : stepQ dig T al pc x q o = stepQ dig L al pc x q o := by
  rcases (by omega : o = 1 ∨ o = 2 ∨ o = 3 ∨ o = 4 ∨ o = 5 ∨ o = 6 ∨ o = 7 ∨ o = 8 ∨ o = 9 ∨ o = 10 ∨ o = 11 ∨ o = 12 ∨ o = 13 ∨ o = 14 ∨ o = 15) with rfl | rfl | rfl | rfl | rfl | rfl | rfl | rfl | rfl | rfl | rfl | rfl | rfl | rfl | rfl
  · rfl
  · rfl
  · rw [stepQ_3] at h
    rw [stepQ_3, stepQ_3]
    by_cases hk : kErr (q.rg x.b) = 0
    · rw [if_pos hk] at h
      rw [if_pos hk, if_pos hk]
      cases hv : lkp (q.rg x.b).t q.l with
      | some v => rfl
      | none =>
        rw [hv] at h
        dsimp only at h ⊢
        rw [seen_agr (h (q.rg x.b).t ⟨_, List.mem_append_right _ (List.mem_singleton.2 rfl), V.kl_irrefl _, .inr (V.kl_irrefl _)⟩)]
    · rw [if_neg hk, if_neg hk]
  · rfl
  · rfl
  · rfl
  · rfl
  · rfl
  · rfl
  · rfl
  · rfl
  · exact qthr_agr hL hK pc x (fL := sumF L q.l) (fT := sumF T q.l) (fun a k hk => by unfold sumF; rw [seen_agr hk]) x.n.toNat ⟨1, 0, emp⟩ h
  · exact qthr_agr hL hK pc x (fL := cntF) (fT := cntF) (fun _ _ _ => rfl) x.n.toNat ⟨1, 0, emp⟩ h
  · rw [stepQ_14] at h
    rw [stepQ_14, stepQ_14]
    by_cases hB : bErr (q.rg x.b) = 0
    · rw [if_pos hB] at h
      rw [if_pos hB, if_pos hB]
      have ha : abv T q.l emp (bKey (q.rg x.b)) = abv L q.l emp (bKey (q.rg x.b)) := by
        refine abv_agr hL hK (fun y hy hy2 => h y ⟨_, List.mem_append_right _ (List.mem_singleton.2 rfl), ?_, hy2⟩)
        show kl y (nfrom (bKey (q.rg x.b))) = false
        unfold nfrom
        split
        · exact kl_emp _
        · rw [V.kl_behind, hy.1]
          rfl
      unfold nextV
      rw [ha]
    · rw [if_neg hB, if_neg hB]
  · rfl

theorem runQ_lk {dig : Int → List Int} {L : KV} {al : List Vd} {xs : List Ins} {ar : Int} (hxs : InsOk ar xs) : ∀ (n k : Nat) (q : Qm), ∀ y ∈ q.lk, y ∈ (runQ (sqf dig L al) xs n k q).1.lk
  | 0, _, _, _, h => h
  | n + 1, k, q, y, h => by
    unfold runQ
    cases hk : xs[k]? with
    | none => exact h
    | some x =>
      dsimp only
      split
      · exact h
      · rename_i h16
        obtain ⟨e, h5, h6⟩ := op_of (hxs k x hk).1 h16
        have h7 := step_lk dig L al k x q x.op.toNat h5 h6 y h
        split
        · exact runQ_lk hxs n _ _ y h7
        · exact h7

/-- A procedure does the same on two states that are alike where it has looked. -/
theorem runQ_agr {dig : Int → List Int} {L T : KV} {al : List Vd} {xs : List Ins} {ar : Int} (hL : LOk L) (hal : ∀ v ∈ al, vok v) (hxs : InsOk ar xs) : ∀ (n k : Nat) (q : Qm), JQ xs.length k q → Agr L T (runQ (sqf dig L al) xs n k q).1.lk → runQ (sqf dig T al) xs n k q = runQ (sqf dig L al) xs n k q
  | 0, _, _, _, _ => rfl
  | n + 1, k, q, hJ, h => by
    unfold runQ at h ⊢
    cases hk : xs[k]? with
    | none => rfl
    | some x =>
      rw [hk] at h
      dsimp only at h ⊢
      by_cases h16 : x.op = 16
      · rw [if_pos h16, if_pos h16]
      · rw [if_neg h16] at h
        rw [if_neg h16, if_neg h16]
        obtain ⟨e, h5, h6⟩ := op_of (hxs k x hk).1 h16
        have hst : sqf dig T al k x q = sqf dig L al k x q := by
          refine step_agr hL.v hJ.ok.kk x.op.toNat h5 h6 ?_
          by_cases h0 : (sqf dig L al k x q).2.2 = 0
          · rw [if_pos h0] at h
            exact h.sub (runQ_lk hxs n _ _)
          · rw [if_neg h0] at h
            exact h
        rw [hst]
        by_cases h0 : (sqf dig L al k x q).2.2 = 0
        · rw [if_pos h0] at h
          rw [if_pos h0, if_pos h0]
          obtain ⟨k', e1, e2, e3, e4⟩ := jq_step (dig := dig) hL hal hxs hJ hk h16 h0
          rw [e1, Int.toNat_natCast] at h ⊢
          exact runQ_agr hL hal hxs n (k' + 1) _ e4 h
        · rw [if_neg h0, if_neg h0]

/-- P10.6: the same effect. -/
theorem efR_agr {dig : Int → List Int} {L T : KV} {nm : ByteArray} {ar : Int} {xs : List Ins} {al : List Vd} (hL : LOk L) (hi : ∀ x ∈ xs, inR x.i = true) (hv : ∀ x ∈ al, inR x.i = true) (h : Agr L T (efR dig L nm ar xs al).lk) : efR dig T nm ar xs al = efR dig L nm ar xs al := by
  unfold efR at h ⊢
  by_cases h1 : (procChk nm ar xs).2 ≠ 0
  · rw [if_pos h1, if_pos h1]
  · rw [if_neg h1] at h
    rw [if_neg h1, if_neg h1]
    by_cases h2 : ∃ x ∈ al, chk x.k x.i x.t ≠ 0
    · rw [if_pos h2, if_pos h2]
    · rw [if_neg h2] at h
      rw [if_neg h2, if_neg h2]
      have h2' : ∀ x ∈ al, chk x.k x.i x.t = 0 := fun x hx => by
        by_cases e : chk x.k x.i x.t = 0
        · exact e
        · exact absurd ⟨x, hx, e⟩ h2
      by_cases h3 : (al.length : Int) ≠ ar
      · rw [if_pos h3, if_pos h3]
      · rw [if_neg h3] at h
        rw [if_neg h3, if_neg h3]
        have h1' : (procChk nm ar xs).2 = 0 := by simpa using h1
        obtain ⟨h64, -, -, hins⟩ := procChk_ok h1' hi
        have hr := runQ_agr (dig := dig) (T := T) hL (fun x hx => ⟨h2' x hx, hv x hx⟩) hins (xs.length + 1) 0 q0 (jq0 _) h
        rw [hr]

end Go.Proofs.YthcoigbkdbkojaaGreat

namespace Go.Proofs.YthcoigbkdbkojaaGreat
open Go.RowKit Go.MapKept
open V (hp_new hp_lt hp_below hp_alloc kl)

theorem neq28 (a b : Int) (c : ByteArray) (a' b' : Int) (c' : ByteArray) (e1 : a = a') (e2 : b = b') (e3 : c = c') (w : World) : (binOp BinOp.neq 28 (.agg #[.int .i64 a, .int .i64 b, .string c]) (.agg #[.int .i64 a', .int .i64 b', .string c'])).run Tryz.prog w = .ok (.bool false) w := by
  subst e1 e2 e3
  simp [go_sem]
theorem neq54 (k : ByteArray) (a b : Int) (c : ByteArray) (k' : ByteArray) (a' b' : Int) (c' : ByteArray) (e0 : k = k') (e1 : a = a') (e2 : b = b') (e3 : c = c') (w : World) : (binOp BinOp.neq 54 (.agg #[.string k, .int .i64 a, .int .i64 b, .string c]) (.agg #[.string k', .int .i64 a', .int .i64 b', .string c'])).run Tryz.prog w = .ok (.bool false) w := by
  subst e0 e1 e2 e3
  simp [go_sem]
theorem neq61 (k c k' c' : ByteArray) (e0 : k = k') (e3 : c = c') (w : World) : (binOp BinOp.neq 61 (.agg #[.string k, .string c]) (.agg #[.string k', .string c'])).run Tryz.prog w = .ok (.bool false) w := by
  subst e0 e3
  simp [go_sem]

set_option maxRecDepth 100000 in
set_option maxHeartbeats 3200000 in
theorem same38_any (v v' : Value) (xs : List Vd) (w : World) (hl : xs.length ≤ 1000) (h : Rf w 3 v xs.length (xs.flatMap vcs)) (h' : Rf w 3 v' xs.length (xs.flatMap vcs)) :
    Calls Tryz.prog 38 #[v, v'] w fun e w' => e = .returned (.bool true) ∧ Below w.heap.size w w' := by
  obtain ⟨ao, ca, rfl, hca, -⟩ := h.shape
  obtain ⟨bo, cb, rfl, hcb, -⟩ := h'.shape
  have H := hid (And.intro h h')
  clear h h'
  go_enter Tryz.func38, Tryz.ntmps38
  go_wp2_with fail
  go_loopw [5] (fun ix wr => ∃ k : Nat, k ≤ xs.length ∧ ix = .int .i64 k ∧ Hid (Below w.heap.size w wr)) (fun ix _ => xs.length - (intOf ix).toNat)
  case atStart => exact ⟨0, Nat.zero_le _, by go_num, hid (Below.refl _ _)⟩
  case round =>
    obtain ⟨k, hk, rfl, HR⟩ := hrel
    by_cases hlt : k < xs.length
    · have i1 : (k : Int) < (xs.length : Int) := by omega
      have i2 : k < 1000 := by omega
      obtain ⟨b, off, cap, e, -, -, hc⟩ := Rf.elem (f := vcs) (fun _ => rfl) (by omega) (H.out.1.below HR.out) k hlt
      injection e with e1 _ e3
      subst e1 e3
      obtain ⟨b', off', cap', e, -, -, hc'⟩ := Rf.elem (f := vcs) (fun _ => rfl) (by omega) (H.out.2.below HR.out) k hlt
      injection e with e1 _ e3
      subst e1 e3
      obtain ⟨x, hx⟩ : ∃ x, x = xs[k] := ⟨_, rfl⟩
      obtain ⟨x', hx'⟩ : ∃ x', x' = xs[k] := ⟨_, rfl⟩
      rw [← hx] at hc
      rw [← hx'] at hc'
      have e := hx.trans hx'.symm
      clear hx hx'
      obtain ⟨vk, vi, vt⟩ := x
      obtain ⟨vk', vi', vt'⟩ := x'
      have c0 : wr.cell? ⟨b, off + k * 3, none⟩ = some (.int .i64 vk) := hc 0 _ rfl
      have c1 : wr.cell? ⟨b, off + k * 3 + 1, none⟩ = some (.int .i64 vi) := hc 1 _ rfl
      have c2 : wr.cell? ⟨b, off + k * 3 + 2, none⟩ = some (.string vt) := hc 2 _ rfl
      have d0 : wr.cell? ⟨b', off' + k * 3, none⟩ = some (.int .i64 vk') := hc' 0 _ rfl
      have d1 : wr.cell? ⟨b', off' + k * 3 + 1, none⟩ = some (.int .i64 vi') := hc' 1 _ rfl
      have d2 : wr.cell? ⟨b', off' + k * 3 + 2, none⟩ = some (.string vt') := hc' 2 _ rfl
      have hne := neq28 vk vi vt vk' vi' vt' (congrArg Vd.k e) (congrArg Vd.i e) (congrArg Vd.t e)
      have hb1 := World.block_lt_of_cell? _ _ c0
      have hb2 := World.block_lt_of_cell? _ _ d0
      dsimp only at hb1 hb2
      clear hc hc' e hk
      have HK := hid hlt
      go_upto_region 6 with fail
      go_region
      all_goals
        go_wp2_with fail
        go_roundw
        case rel => exact ⟨k + 1, by omega, by go_num, hid HR.out.drew⟩
        case measure => simp [intOf]; omega
    · obtain rfl : xs.length = k := by omega
      have i1 : ¬ (xs.length : Int) < (xs.length : Int) := by omega
      go_wp2_with fail
      go_ret
      exact ⟨rfl, HR.out⟩

set_option maxRecDepth 100000 in
set_option maxHeartbeats 3200000 in
theorem same36_any (v v' : Value) (xs : List (ByteArray × Vd)) (w : World) (hl : xs.length ≤ 1000) (h : Rf w 4 v xs.length (xs.flatMap ecs)) (h' : Rf w 4 v' xs.length (xs.flatMap ecs)) :
    Calls Tryz.prog 36 #[v, v'] w fun e w' => e = .returned (.bool true) ∧ Below w.heap.size w w' := by
  obtain ⟨ao, ca, rfl, hca, -⟩ := h.shape
  obtain ⟨bo, cb, rfl, hcb, -⟩ := h'.shape
  have H := hid (And.intro h h')
  clear h h'
  go_enter Tryz.func36, Tryz.ntmps36
  go_wp2_with fail
  go_loopw [5] (fun ix wr => ∃ k : Nat, k ≤ xs.length ∧ ix = .int .i64 k ∧ Hid (Below w.heap.size w wr)) (fun ix _ => xs.length - (intOf ix).toNat)
  case atStart => exact ⟨0, Nat.zero_le _, by go_num, hid (Below.refl _ _)⟩
  case round =>
    obtain ⟨k, hk, rfl, HR⟩ := hrel
    by_cases hlt : k < xs.length
    · have i1 : (k : Int) < (xs.length : Int) := by omega
      have i2 : k < 1000 := by omega
      obtain ⟨b, off, cap, e, -, -, hc⟩ := Rf.elem (f := ecs) (fun _ => rfl) (by omega) (H.out.1.below HR.out) k hlt
      injection e with e1 _ e3
      subst e1 e3
      obtain ⟨b', off', cap', e, -, -, hc'⟩ := Rf.elem (f := ecs) (fun _ => rfl) (by omega) (H.out.2.below HR.out) k hlt
      injection e with e1 _ e3
      subst e1 e3
      obtain ⟨x, hx⟩ : ∃ x, x = xs[k] := ⟨_, rfl⟩
      obtain ⟨x', hx'⟩ : ∃ x', x' = xs[k] := ⟨_, rfl⟩
      rw [← hx] at hc
      rw [← hx'] at hc'
      have e := hx.trans hx'.symm
      clear hx hx'
      obtain ⟨ek, vk, vi, vt⟩ := x
      obtain ⟨ek', vk', vi', vt'⟩ := x'
      have c0 : wr.cell? ⟨b, off + k * 4, none⟩ = some (.string ek) := hc 0 _ rfl
      have c1 : wr.cell? ⟨b, off + k * 4 + 1, none⟩ = some (.int .i64 vk) := hc 1 _ rfl
      have c2 : wr.cell? ⟨b, off + k * 4 + 2, none⟩ = some (.int .i64 vi) := hc 2 _ rfl
      have c3 : wr.cell? ⟨b, off + k * 4 + 3, none⟩ = some (.string vt) := hc 3 _ rfl
      have d0 : wr.cell? ⟨b', off' + k * 4, none⟩ = some (.string ek') := hc' 0 _ rfl
      have d1 : wr.cell? ⟨b', off' + k * 4 + 1, none⟩ = some (.int .i64 vk') := hc' 1 _ rfl
      have d2 : wr.cell? ⟨b', off' + k * 4 + 2, none⟩ = some (.int .i64 vi') := hc' 2 _ rfl
      have d3 : wr.cell? ⟨b', off' + k * 4 + 3, none⟩ = some (.string vt') := hc' 3 _ rfl
      have hne := neq54 ek vk vi vt ek' vk' vi' vt' (congrArg Prod.fst e) (congrArg (fun x => x.2.k) e) (congrArg (fun x => x.2.i) e) (congrArg (fun x => x.2.t) e)
      have hb1 := World.block_lt_of_cell? _ _ c0
      have hb2 := World.block_lt_of_cell? _ _ d0
      dsimp only at hb1 hb2
      clear hc hc' e hk
      have HK := hid hlt
      go_upto_region 6 with fail
      go_region
      all_goals
        go_wp2_with fail
        go_roundw
        case rel => exact ⟨k + 1, by omega, by go_num, hid HR.out.drew⟩
        case measure => simp [intOf]; omega
    · obtain rfl : xs.length = k := by omega
      have i1 : ¬ (xs.length : Int) < (xs.length : Int) := by omega
      go_wp2_with fail
      go_ret
      exact ⟨rfl, HR.out⟩

set_option maxRecDepth 100000 in
set_option maxHeartbeats 3200000 in
theorem same37_any (v v' : Value) (xs : List (ByteArray × ByteArray)) (w : World) (hl : xs.length ≤ 1000) (h : Rf w 2 v xs.length (xs.flatMap lcs)) (h' : Rf w 2 v' xs.length (xs.flatMap lcs)) :
    Calls Tryz.prog 37 #[v, v'] w fun e w' => e = .returned (.bool true) ∧ Below w.heap.size w w' := by
  obtain ⟨ao, ca, rfl, hca, -⟩ := h.shape
  obtain ⟨bo, cb, rfl, hcb, -⟩ := h'.shape
  have H := hid (And.intro h h')
  clear h h'
  go_enter Tryz.func37, Tryz.ntmps37
  go_wp2_with fail
  go_loopw [5] (fun ix wr => ∃ k : Nat, k ≤ xs.length ∧ ix = .int .i64 k ∧ Hid (Below w.heap.size w wr)) (fun ix _ => xs.length - (intOf ix).toNat)
  case atStart => exact ⟨0, Nat.zero_le _, by go_num, hid (Below.refl _ _)⟩
  case round =>
    obtain ⟨k, hk, rfl, HR⟩ := hrel
    by_cases hlt : k < xs.length
    · have i1 : (k : Int) < (xs.length : Int) := by omega
      have i2 : k < 1000 := by omega
      obtain ⟨b, off, cap, e, -, -, hc⟩ := Rf.elem (f := lcs) (fun _ => rfl) (by omega) (H.out.1.below HR.out) k hlt
      injection e with e1 _ e3
      subst e1 e3
      obtain ⟨b', off', cap', e, -, -, hc'⟩ := Rf.elem (f := lcs) (fun _ => rfl) (by omega) (H.out.2.below HR.out) k hlt
      injection e with e1 _ e3
      subst e1 e3
      obtain ⟨x, hx⟩ : ∃ x, x = xs[k] := ⟨_, rfl⟩
      obtain ⟨x', hx'⟩ : ∃ x', x' = xs[k] := ⟨_, rfl⟩
      rw [← hx] at hc
      rw [← hx'] at hc'
      have e := hx.trans hx'.symm
      clear hx hx'
      obtain ⟨f, t⟩ := x
      obtain ⟨f', t'⟩ := x'
      have c0 : wr.cell? ⟨b, off + k * 2, none⟩ = some (.string f) := hc 0 _ rfl
      have c1 : wr.cell? ⟨b, off + k * 2 + 1, none⟩ = some (.string t) := hc 1 _ rfl
      have d0 : wr.cell? ⟨b', off' + k * 2, none⟩ = some (.string f') := hc' 0 _ rfl
      have d1 : wr.cell? ⟨b', off' + k * 2 + 1, none⟩ = some (.string t') := hc' 1 _ rfl
      have hne := neq61 f t f' t' (congrArg Prod.fst e) (congrArg Prod.snd e)
      have hb1 := World.block_lt_of_cell? _ _ c0
      have hb2 := World.block_lt_of_cell? _ _ d0
      dsimp only at hb1 hb2
      clear hc hc' e hk
      have HK := hid hlt
      go_upto_region 6 with fail
      go_region
      all_goals
        go_wp2_with fail
        go_roundw
        case rel => exact ⟨k + 1, by omega, by go_num, hid HR.out.drew⟩
        case measure => simp [intOf]; omega
    · obtain rfl : xs.length = k := by omega
      have i1 : ¬ (xs.length : Int) < (xs.length : Int) := by omega
      go_wp2_with fail
      go_ret
      exact ⟨rfl, HR.out⟩

/-- Two outcomes that say the same. -/
theorem ended_any (st at_ : Int) (v v' : Value) (xs : List Vd) (w : World) (hl : xs.length ≤ 1000) (h : Rf w 3 v xs.length (xs.flatMap vcs)) (h' : Rf w 3 v' xs.length (xs.flatMap vcs)) :
    Calls Tryz.prog 35 #[.agg #[.int .i64 st, .int .i64 at_, v], .agg #[.int .i64 st, .int .i64 at_, v']] w fun e w' => e = .returned (.bool true) ∧ Below w.heap.size w w' := by
  obtain ⟨ao, ca, rfl, -, -⟩ := h.shape
  obtain ⟨bo, cb, rfl, -, -⟩ := h'.shape
  have hb := below2 w (.cells #[.int .i64 st, .int .i64 at_, .slice ao xs.length ca] 40) (.cells #[.int .i64 st, .int .i64 at_, .slice bo xs.length cb] 40)
  have HB := hid hb
  have HS := hid (same38_any (.slice ao xs.length ca) (.slice bo xs.length cb) xs _ hl (h.below hb) (h'.below hb))
  have es : (st == st) = true := by simp
  have ea : (at_ == at_) = true := by simp
  clear h h' hb hl
  go_enter Tryz.func35, Tryz.ntmps35
  go_wp2_with (
    go_at_call 38
    refine HS.out.mono ?_
    rintro e w2 ⟨rfl, hb2⟩
    have H2 := hid (below_on HB.out hb2)
    clear hb2)
  go_ret
  exact ⟨rfl, H2.out⟩

/-- Two effects that say the same. -/
theorem same_any (st at_ : Int) (t1 t2 t3 u1 u2 u3 : Option Addr) (k1 k2 k3 j1 j2 j3 : Nat) (td : List Vd) (wl : List (ByteArray × Vd)) (lk : List (ByteArray × ByteArray)) (w : World) (n1 : td.length ≤ 64) (n2 : wl.length ≤ 64) (n3 : lk.length ≤ 64) (h : EfW w td wl lk t1 t2 t3 k1 k2 k3) (h' : EfW w td wl lk u1 u2 u3 j1 j2 j3) :
    Calls Tryz.prog 14 #[.agg #[.int .i64 st, .int .i64 at_, .slice t1 td.length k1, .slice t2 wl.length k2, .slice t3 lk.length k3], .agg #[.int .i64 st, .int .i64 at_, .slice u1 td.length j1, .slice u2 wl.length j2, .slice u3 lk.length j3]] w fun e w' => e = .returned (.bool true) ∧ Below w.heap.size w w' := by
  have hb := below2 w (.cells #[.int .i64 st, .int .i64 at_, .slice t1 td.length k1, .slice t2 wl.length k2, .slice t3 lk.length k3] 43) (.cells #[.int .i64 st, .int .i64 at_, .slice u1 td.length j1, .slice u2 wl.length j2, .slice u3 lk.length j3] 43)
  have b1 := two1 w (.cells #[.int .i64 st, .int .i64 at_, .slice t1 td.length k1, .slice t2 wl.length k2, .slice t3 lk.length k3] 43) (.cells #[.int .i64 st, .int .i64 at_, .slice u1 td.length j1, .slice u2 wl.length j2, .slice u3 lk.length j3] 43)
  have b2 := two2 w (.cells #[.int .i64 st, .int .i64 at_, .slice t1 td.length k1, .slice t2 wl.length k2, .slice t3 lk.length k3] 43) (.cells #[.int .i64 st, .int .i64 at_, .slice u1 td.length j1, .slice u2 wl.length j2, .slice u3 lk.length j3] 43)
  have HB := hid (And.intro hb (And.intro b1 b2))
  have HS1 := hid (fun W (hW : Below w.heap.size w W) => ended_any st at_ (.slice t1 td.length k1) (.slice u1 td.length j1) td W (by omega) ((rf_of_owns h.o1 (vcs_one _)).below hW) ((rf_of_owns h'.o1 (vcs_one _)).below hW))
  have HS2 := hid (fun W (hW : Below w.heap.size w W) => same36_any (.slice t2 wl.length k2) (.slice u2 wl.length j2) wl W (by omega) ((rf_of_owns h.o2 (ecs_one _)).below hW) ((rf_of_owns h'.o2 (ecs_one _)).below hW))
  have HS3 := hid (fun W (hW : Below w.heap.size w W) => same37_any (.slice t3 lk.length k3) (.slice u3 lk.length j3) lk W (by omega) ((rf_of_owns h.o3 (lcs_one _)).below hW) ((rf_of_owns h'.o3 (lcs_one _)).below hW))
  clear h h' hb b1 b2 n1 n2 n3
  go_enter Tryz.func14, Tryz.ntmps14
  go_wp2_with (first
    | (go_at_call 35
       refine (HS1.out _ HB.out.1).mono ?_
       rintro e w2 ⟨rfl, hb2⟩
       have g1 := blk_of hb2 HB.out.2.1 (hp_lt HB.out.2.1)
       have g2 := blk_of hb2 HB.out.2.2 (hp_lt HB.out.2.2)
       obtain ⟨r0, r1, r2, r3, r4, r5⟩ := cells5f g1
       obtain ⟨s0, s1, s2, s3, s4, s5⟩ := cells5f g2
       have H2 := hid (And.intro (below_on HB.out.1 hb2) (And.intro g1 g2))
       clear hb2 g1 g2)
    | (go_at_call 36
       refine (HS2.out _ H2.out.1).mono ?_
       rintro e w3 ⟨rfl, hb3⟩
       have g1 := blk_of hb3 H2.out.2.1 (hp_lt H2.out.2.1)
       have g2 := blk_of hb3 H2.out.2.2 (hp_lt H2.out.2.2)
       obtain ⟨p0, p1, p2, p3, p4, p5⟩ := cells5f g1
       obtain ⟨q0, q1, q2, q3, q4, q5⟩ := cells5f g2
       have H3 := hid (below_on H2.out.1 hb3)
       clear hb3 g1 g2)
    | (go_at_call 37
       refine (HS3.out _ H3.out).mono ?_
       rintro e w4 ⟨rfl, hb4⟩
       have H4 := hid (below_on H3.out hb4)
       clear hb4))
  go_ret
  exact ⟨rfl, H4.out⟩

end Go.Proofs.YthcoigbkdbkojaaGreat
