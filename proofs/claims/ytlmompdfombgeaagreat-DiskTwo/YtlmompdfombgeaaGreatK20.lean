import Derived.Test.YtlmompdfombgeaaGreatK19
import Derived.Test.YtlmompdfombgeaaGreatK09
namespace Go.Proofs.YtlmompdfombgeaaGreat
open Go.RowKit Go.MapKept

/-- What told tells, over any names. -/
theorem told_dkB (B b c fn : Nat) (nv : List (ByteArray × Value)) (es : Array MapEntry) (lb : Array Value) (l : List (ByteArray × Int)) (cont : Int → List Int) (w : World) (h : MG KS w b nv es c) (hp : nv.Perm (encN l)) (hok : ∀ x ∈ l, nmOK x.1 = true) (hn : l.length ≤ 1000000) (hB : B ≤ w.heap.size)
    (he : ∀ args w, (callFunc fn args).run Tryz.prog w = .ok (.enter fn args) w) (hdata : ∀ x ∈ l, ∀ w1, Below w.heap.size w w1 → Calls Tryz.prog fn (#[.int .i64 x.2] ++ lb) w1 fun e w2 => ∃ Y, e = .returned (.slice (some ⟨Y, 0, none⟩) (cont x.2).length (cont x.2).length) ∧ Own w2 Y (cont x.2) ∧ B ≤ Y ∧ Below w1.heap.size w1 w2) :
    Calls Tryz.prog 96 #[.map (some b), .func (.func fn) #[] lb] w fun x w' => ∃ v, x = .returned v ∧ FbAt w' B v (toldN l cont) ∧ Below w.heap.size w w' := by
  have hmem : ∀ x ∈ nv, ∃ y ∈ l, x = (y.1, Value.int .i64 y.2) := fun x hx => by
    obtain ⟨y, hy, e⟩ := List.mem_map.1 (hp.mem_iff.1 hx)
    exact ⟨y, hy, e.symm⟩
  have hlen : nv.length = l.length := by rw [hp.length_eq]; simp [encN]
  refine (told_gen B b c fn nv es lb cont w h (fun x hx => ?_) (by omega) (fun x hx => ?_) hB he (fun x hx => ?_)).mono ?_
  · obtain ⟨y, hy, rfl⟩ := hmem x hx
    have := nm_size (hok y hy)
    unfold maxLen
    dsimp only
    omega
  · obtain ⟨y, hy, rfl⟩ := hmem x hx
    rfl
  · obtain ⟨y, hy, rfl⟩ := hmem x hx
    exact hdata y hy
  · rintro x w' ⟨v, ys, rfl, hrow, hl, hys, hb⟩
    have hsk : sk nv = sk (encN l) := sk_perm hp
    have e1 : (toldN l cont).length = nv.length := by simp [toldN, skN, ← hsk, sk_len]
    have e2 : ∀ ys : List Nat, ((toldN l cont).zip ys).flatMap (fun x => [Value.string x.1.1, .slice (some ⟨x.2, 0, none⟩) x.1.2.length x.1.2.length]) = ((sk nv).zip ys).flatMap (tcs cont nv) := by
      intro ys
      unfold toldN skN
      rw [← hsk, List.map_map, List.zip_map_left, List.flatMap_map]
      congr 1
      funext x
      simp only [tcs, Prod.map, Function.comp, noOf_perm hp h.keys, id]
    refine ⟨v, rfl, ⟨ys, by rw [e1]; exact hl, ?_, ?_⟩, hb⟩
    · rw [e1, e2]
      exact owns_base hrow hB
    · intro i x Y hx hY
      unfold toldN skN at hx
      rw [← hsk, List.map_map, List.getElem?_map] at hx
      cases hs : (sk nv)[i]? with
      | none => rw [hs] at hx; cases hx
      | some s =>
        rw [hs] at hx
        injection hx with hx
        subst hx
        have := hys i s Y hs hY
        rw [noOf_perm hp h.keys] at this
        exact this

set_option maxRecDepth 100000 in
set_option maxHeartbeats 800000 in
/-- The row that Crash has kept of a number. -/
theorem crash1_gen (xw M cM : Nat) (kv : List (Int × Value)) (es : Array MapEntry) (m : Int) (v : Value) (w : World) (hx : w.cell? ⟨xw, 0, none⟩ = some (.map (some M))) (hM : MG KI w M kv es cM) (hl : lo m kv = some v) :
    Calls Tryz.prog 97 #[.int .i64 m, .pointer (some ⟨xw, 0, none⟩)] w fun x w' => x = .returned v ∧ w' = w := by
  obtain ⟨j, hj⟩ := (hM.findn m).2 v hl
  have hl := look_found (w := w) Tryz.underlying131 Tryz.underlying3 hM.blk (key_int m) (show Instr.findNow (.int .i64) (.int .i64 m) _ 0 = some (some (j, v)) from hj) false
  simp only [Bool.false_eq_true, if_false] at hl
  clear hM hj
  go_enter Tryz.func97, Tryz.ntmps97
  go_wp2
  go_ret
  exact ⟨rfl, rfl⟩

theorem Tryz.elem48 : Tryz.prog.underlying 48 = some (.slice (Tryz.prog.elem 48)) := by kernel_rfl
theorem size48 (w : World) : (sizeOf (Tryz.prog.elem 48)).run Tryz.prog w = .ok 3 w := by kernel_rfl

/-- v[:k] of an owned row of changes of names. -/
theorem ownT_to {w : World} {B n : Nat} {v : Value} {xs : List Value} (h : w.ownsRow B 121 3 v n xs) (k : Nat) (hk : k ≤ n) :
    ∃ a cap, (∀ wx : World, (Instr.slice 48 v none (some (.int .i64 k)) none).run Tryz.prog wx = .ok (.slice a k cap) wx) ∧ (0 < k → ∃ g, a = some ⟨g, 0, none⟩ ∧ v.ownBlock = some g) := by
  rcases h.2 with ⟨rfl, h0⟩ | ⟨g, cap, cur, rfl, hb, hg, hc, hm, hs, ht⟩
  · obtain rfl : k = 0 := by omega
    refine ⟨none, 0, fun wx => ?_, fun h => by omega⟩
    rw [run_slice_h wx 48 none 0 0 Tryz.elem48 .i64 ((0 : Nat) : Int) (by omega) (by omega), size48]
    rfl
  · refine ⟨some ⟨g, 0, none⟩, cap, fun wx => ?_, fun _ => ⟨g, rfl, rfl⟩⟩
    rw [run_slice_h wx 48 (some ⟨g, 0, none⟩) n cap Tryz.elem48 .i64 k (by omega) (by omega), size48]
    simp [sliced, add_lit]

theorem encT_get : ∀ (l : List Nmg) (k : Nat) (x : Nmg), l[k]? = some x → (encT l)[k * 3]? = some (.string x.1) ∧ (encT l)[k * 3 + 1]? = some (.string x.2.1) ∧ (encT l)[k * 3 + 2]? = some (.int .i64 x.2.2)
  | [], _, _, h => by simp at h
  | y :: l, 0, x, h => by
    simp at h
    subst h
    exact ⟨rfl, rfl, rfl⟩
  | y :: l, k + 1, x, h => by
    have := encT_get l k x (by simpa using h)
    have e : encT (y :: l) = [.string y.1, .string y.2.1, .int .i64 y.2.2] ++ encT l := rfl
    rw [e]
    refine ⟨?_, ?_, ?_⟩
    · rw [List.getElem?_append_right (by simp; omega)]
      simp only [List.length_cons, List.length_nil]
      rw [show (k + 1) * 3 - (0 + 1 + 1 + 1) = k * 3 by omega]
      exact this.1
    · rw [List.getElem?_append_right (by simp; omega)]
      simp only [List.length_cons, List.length_nil]
      rw [show (k + 1) * 3 + 1 - (0 + 1 + 1 + 1) = k * 3 + 1 by omega]
      exact this.2.1
    · rw [List.getElem?_append_right (by simp; omega)]
      simp only [List.length_cons, List.length_nil]
      rw [show (k + 1) * 3 + 2 - (0 + 1 + 1 + 1) = k * 3 + 2 by omega]
      exact this.2.2

theorem namesAt_succ (D : Dq) (k : Nat) (x : Nmg) (h : D.turns[k]? = some x) : D.namesAt (k + 1) = doT (D.namesAt k) x := by
  unfold Dq.namesAt
  rw [List.take_add_one, h, List.foldl_append]
  rfl

theorem lo_append_some {κ β : Type} [DecidableEq κ] {k : κ} {v : β} : ∀ {l : List (κ × β)} (l' : List (κ × β)), lo k l = some v → lo k (l ++ l') = some v
  | [], _, h => by cases h
  | x :: l, l', h => by
    rw [List.cons_append, lo]
    rw [lo] at h
    split
    · rename_i e; rw [if_pos e] at h; exact h
    · rename_i e; rw [if_neg e] at h; exact lo_append_some l' h

theorem lo_append_new {κ β : Type} [DecidableEq κ] {k : κ} {v : β} : ∀ {l : List (κ × β)}, lo k l = none → lo k (l ++ [(k, v)]) = some v
  | [], _ => by simp [lo]
  | x :: l, h => by
    rw [List.cons_append, lo]
    rw [lo] at h
    split
    · rename_i e; rw [if_pos e] at h; cases h
    · rename_i e; rw [if_neg e] at h; exact lo_append_new h

/-- The picks as data. -/
def pksOf (pk : List Pk) : List (Int × List Int) := pk.map fun p => (p.done, p.lost)

theorem pkAt_some (pk : List Pk) (k : Nat) (h : k < pk.length) : pkAt (pksOf pk) k = (pk[k].done, pk[k].lost) := by
  unfold pkAt pksOf
  rw [List.getElem?_map, List.getElem?_eq_getElem h]
  rfl
theorem pkAt_none (pk : List Pk) (k : Nat) (h : ¬ k < pk.length) : pkAt (pksOf pk) k = (0, []) := by
  unfold pkAt pksOf
  rw [List.getElem?_map, List.getElem?_eq_none (by omega)]
  rfl

theorem pcs_get : ∀ (l : List Pk) (k : Nat) (x : Pk), l[k]? = some x → (l.flatMap pcs)[k * 2]? = some (.int .i64 x.done) ∧ (l.flatMap pcs)[k * 2 + 1]? = some x.lv
  | [], _, _, h => by simp at h
  | y :: l, 0, x, h => by
    simp at h
    subst h
    exact ⟨rfl, rfl⟩
  | y :: l, k + 1, x, h => by
    have := pcs_get l k x (by simpa using h)
    have e : (y :: l).flatMap pcs = [.int .i64 y.done, y.lv] ++ l.flatMap pcs := rfl
    rw [e]
    refine ⟨?_, ?_⟩
    · rw [List.getElem?_append_right (by simp; omega)]
      simp only [List.length_cons, List.length_nil]
      rw [show (k + 1) * 2 - (0 + 1 + 1) = k * 2 by omega]
      exact this.1
    · rw [List.getElem?_append_right (by simp; omega)]
      simp only [List.length_cons, List.length_nil]
      rw [show (k + 1) * 2 + 1 - (0 + 1 + 1) = k * 2 + 1 by omega]
      exact this.2

section
variable {w : World} {d : Nat} {t : Wt} {D : Dq} {n : Nat}

/-- A map that is none of a disk's maps is none of its blocks. -/
theorem DkT.notMap (h : DkT w d t D) {M : Nat} {es : Array MapEntry} {c : Nat} (hM : w.heap[M]? = some (.map es c)) (h1 : M ≠ t.L) (h2 : M ≠ t.N) (h3 : M ≠ t.F) (h4 : ∀ b, t.k1 = .map (some b) ∨ t.k2 = .map (some b) → b ≠ M) : ¬ Dft d t D M := by
  rintro (e | e | e | e | e | e | e | ⟨f, hf, e⟩)
  · exact hp_ne h.disk hM (by simp) e.symm
  · exact h1 e
  · exact h2 e
  · exact h3 e
  · obtain ⟨cs, a⟩ := owns_block h.nam _ e
    exact hp_ne a hM (by simp) rfl
  · exact h4 M (.inl e) rfl
  · exact h4 M (.inr e) rfl
  · obtain ⟨cs, ty, a, _⟩ := (h.fil f hf).typed _ e
    exact hp_ne a hM (by simp) rfl

/-- Where Crash's first loop stands. -/
structure CrI (w wr : World) (d : Nat) (t : Wt) (D : Dq) (pks : List (Int × List Int)) (k M : Nat) (ft' : Int → Nat → Prop) (kv : List (Int × Value)) (es : Array MapEntry) (c : Nat) : Prop where
  g : Goes d w t D wr { t with ft := ft' } (crashD pks k D)
  m : MG KI wr M kv es c
  keys : kv.map Prod.fst = (D.files.take k).map Fi.no
  row : ∀ i f, i < k → D.files[i]? = some f → ∃ Y, lo f.no kv = some (.slice (some ⟨Y, 0, none⟩) (wholeF (pkAt pks i).1 f).1.length (wholeF (pkAt pks i).1 f).1.length) ∧ Own wr Y (wholeF (pkAt pks i).1 f).1 ∧ w.heap.size ≤ Y

theorem crI_zero (h : DkT w d t D) {wr : World} (hb : Below w.heap.size w wr) {M : Nat} (hM : wr.heap[M]? = some (.map #[] 0)) (pks : List (Int × List Int)) : CrI w wr d t D pks 0 M t.ft [] #[] 0 := by
  refine ⟨?_, ⟨hM, by simp, by simp, rfl, by simp⟩, rfl, fun i f hi => by omega⟩
  have e : crashD pks 0 D = D := by
    unfold crashD
    rw [crashTo_zero]
  rw [e]
  exact Goes.still h hb

theorem CrI.step {wr w2 : World} {pks : List (Int × List Int)} {k M X : Nat} {ft' : Int → Nat → Prop} {kv : List (Int × Value)} {es : Array MapEntry} {c : Nat} (hI : CrI w wr d t D pks k M ft' kv es c) (h : DkT w d t D) (hW : WD n D) {f : Fi} (hf : D.files[k]? = some f) (hMl : w.heap.size ≤ M) {ftf : Nat → Prop}
    {wa : World} (hwa : Below wr.heap.size wr wa) (hX : wa.heap.size ≤ X) (hO : Own w2 X (wholeF (pkAt pks k).1 f).1) (hF : Fil w2 ftf (t.pt f.no) (crashF (pkAt pks k) f)) (hft : ∀ j, ftf j → j = t.pt f.no ∨ (wa.heap.size ≤ j ∧ j ≠ X)) (hk : Kept (fun j => j = t.pt f.no) wa w2) :
    (∃ es' c', (Instr.mapUpdate 131 (.map (some M)) (.int .i64 f.no) (.slice (some ⟨X, 0, none⟩) (wholeF (pkAt pks k).1 f).1.length (wholeF (pkAt pks k).1 f).1.length)).run Tryz.prog w2 = .ok () (puts w2 M (.map es' c')) ∧
      CrI w (puts w2 M (.map es' c')) d t D pks (k + 1) M (fun m => if m = f.no then ftf else ft' m) (kv ++ [(f.no, .slice (some ⟨X, 0, none⟩) (wholeF (pkAt pks k).1 f).1.length (wholeF (pkAt pks k).1 f).1.length)]) es' c' ∧ Kept (fun j => j = t.pt f.no ∨ j = M) wr (puts w2 M (.map es' c'))) := by
  have hD := hI.g.dk
  have hfm : f ∈ (crashD pks k D).files := List.mem_of_getElem? (crashTo_get pks k D.files k f hf (Nat.le_refl _))
  have hkr : Kept (fun j => j = t.pt f.no) wr w2 := ((Kept.ofBelow hwa).mono (fun _ _ e => e.elim)).trans hk (fun _ _ e => e)
  have hself : ft' f.no (t.pt f.no) := (hD.fil f hfm).self
  have hG1 := hD.change (f' := crashF (pkAt pks k) f) hfm rfl (hkr.mono (fun j _ e => by rw [e]; exact hself)) hF (fun j e => by
    rcases hft j e with e | ⟨e, _⟩
    · exact .inl (by rw [e]; exact hself)
    · exact .inr (Nat.le_trans hwa.size e))
  have eD : ({ crashD pks k D with files := setF (crashF (pkAt pks k) f) (crashD pks k D).files } : Dq) = crashD pks (k + 1) D := by
    unfold crashD
    rw [crashTo_step pks k D.files f hf hW.nd]
  rw [eD] at hG1
  have pL : M ≠ t.L := by have := hp_lt h.hL.blk; omega
  have pN : M ≠ t.N := by have := hp_lt h.hN.blk; omega
  have pF : M ≠ t.F := by have := hp_lt h.hF.blk; omega
  have pk : ∀ b, t.k1 = .map (some b) ∨ t.k2 = .map (some b) → b ≠ M := fun b e => by
    have : b < w.heap.size := by
      rcases e with e | e
      · exact h.lt b (.inr (.inr (.inr (.inr (.inr (.inl e))))))
      · exact h.lt b (.inr (.inr (.inr (.inr (.inr (.inr (.inl e)))))))
    omega
  have hpw : t.pt f.no < w.heap.size := by
    have hf0 : f ∈ D.files := List.mem_of_getElem? hf
    exact h.lt _ (.inr (.inr (.inr (.inr (.inr (.inr (.inr ⟨f, hf0, (h.fil f hf0).self⟩)))))))
  have hM2 : MG KI w2 M kv es c := hI.m.kept hkr (by omega)
  have hno : lo f.no kv = none := by
    rw [lo_none]
    intro x hx e
    have h1 : f.no ∈ kv.map Prod.fst := List.mem_map.2 ⟨x, hx, e⟩
    rw [hI.keys] at h1
    have h2 := hW.nd
    have h3 : D.files.map Fi.no = (D.files.take k).map Fi.no ++ (D.files.drop k).map Fi.no := by rw [← List.map_append, List.take_append_drop]
    rw [h3, List.nodup_append] at h2
    refine h2.2.2 _ h1 f.no (List.mem_map.2 ⟨f, ?_, rfl⟩) rfl
    refine List.mem_iff_getElem?.2 ⟨0, ?_⟩
    rw [List.getElem?_drop]
    exact hf
  have hu := upd_new (w := w2) Tryz.underlying131 Tryz.underlying3 hM2.blk (key_int f.no) (.slice (some ⟨X, 0, none⟩) (wholeF (pkAt pks k).1 f).1.length (wholeF (pkAt pks k).1 f).1.length) ((hM2.findn f.no).1 hno)
  have hK3 : Kept (fun j => j = M) w2 (puts w2 M (.map (es.push { key := .int .i64 f.no, val := .slice (some ⟨X, 0, none⟩) (wholeF (pkAt pks k).1 f).1.length (wholeF (pkAt pks k).1 f).1.length, born := c }) (c + 1))) := (Kept.refl (fun j => j = M) w2).puts (fun _ => rfl) _
  refine ⟨_, _, hu, ⟨?_, ?_, ?_, ?_⟩, ?_⟩
  · have hnM : ¬ Dft d _ (crashD pks (k + 1) D) M := hG1.dk.notMap hM2.blk pL pN pF pk
    have hG2 := hI.g.trans hG1
    refine ⟨hG2.dk.kept hK3 (fun j e e2 => hnM (by rw [← e2]; exact e)), hG2.kp.trans hK3 (fun i hi e => by omega), hG2.ft⟩
  · exact hM2.push f.no _ (by rw [lo_lookup]; exact hno) (puts_same hM2.blk)
  · rw [List.map_append, hI.keys, List.take_add_one, hf, List.map_append]
    rfl
  · intro i g hi hg
    by_cases hik : i < k
    · obtain ⟨Y, y1, y2, y3⟩ := hI.row i g hik hg
      have hYp : Y ≠ t.pt f.no := fun e => by omega
      have hYM : Y ≠ M := fun e => by rw [e] at y2; exact hp_ne y2 hI.m.blk (by simp) rfl
      exact ⟨Y, lo_append_some _ y1, hp_kept (hp_kept y2 hkr hYp) hK3 hYM, y3⟩
    · have : i = k := by omega
      subst this
      rw [hf] at hg
      injection hg with hg
      subst hg
      have hYM : X ≠ M := fun e => by rw [e] at hO; exact hp_ne hO hM2.blk (by simp) rfl
      have := hI.g.kp.size
      have := hwa.size
      exact ⟨X, lo_append_new hno, hp_kept hO hK3 hYM, by omega⟩
  · exact (hkr.mono (fun _ _ e => .inl e)).trans hK3 (fun _ _ e => .inr e)

end
end Go.Proofs.YtlmompdfombgeaaGreat
