import Derived.Test.YtlmompdfombgeaaGreatK30
import Derived.Test.YtlmompdfombgeaaGreatK37
import Derived.Test.YtlmompdfombgeaaGreatK31
import Derived.Test.YtlmompdfombgeaaGreatK21
namespace Go.Proofs.YtlmompdfombgeaaGreat
open Go.RowKit Go.MapKept

/-- What a crash tells of a file. -/
def whF (pks : List (Int × List Int)) (i : Nat) (f : Fi) : Fi := ⟨f.no, (wholeF (pkAt pks i).1 f).1, []⟩

def whL (pks : List (Int × List Int)) (k : Nat) (l : List Fi) : List Fi := (l.take k).mapIdx (whF pks)
def loL (pks : List (Int × List Int)) (k : Nat) (l : List Fi) : List Fi := (l.take k).mapIdx fun i f => crashF (pkAt pks i) f

theorem whL_succ (pks : List (Int × List Int)) (k : Nat) (l : List Fi) (f : Fi) (h : l[k]? = some f) : whL pks (k + 1) l = whL pks k l ++ [whF pks k f] := by
  have hk := (List.getElem?_eq_some_iff.1 h).1
  unfold whL
  rw [List.take_add_one, h]
  simp [List.mapIdx_append, Nat.min_eq_left (Nat.le_of_lt hk)]

theorem loL_succ (pks : List (Int × List Int)) (k : Nat) (l : List Fi) (f : Fi) (h : l[k]? = some f) : loL pks (k + 1) l = loL pks k l ++ [crashF (pkAt pks k) f] := by
  have hk := (List.getElem?_eq_some_iff.1 h).1
  unfold loL
  rw [List.take_add_one, h]
  simp [List.mapIdx_append, Nat.min_eq_left (Nat.le_of_lt hk)]

theorem whL_len (pks : List (Int × List Int)) (k : Nat) (l : List Fi) (h : k ≤ l.length) : (whL pks k l).length = k := by simp [whL]; omega
theorem loL_len (pks : List (Int × List Int)) (k : Nat) (l : List Fi) (h : k ≤ l.length) : (loL pks k l).length = k := by simp [loL]; omega

theorem mapIdx_no (g : Nat → Fi → Fi) (hg : ∀ i f, (g i f).no = f.no) (l : List Fi) : (l.mapIdx g).map Fi.no = l.map Fi.no := by
  apply List.ext_getElem?
  intro i
  rw [List.getElem?_map, List.getElem?_mapIdx, List.getElem?_map]
  cases l[i]? with
  | none => rfl
  | some f => simp [hg]

theorem whL_no (pks : List (Int × List Int)) (k : Nat) (l : List Fi) : (whL pks k l).map Fi.no = (l.take k).map Fi.no := mapIdx_no (whF pks) (fun _ _ => rfl) _
theorem loL_no (pks : List (Int × List Int)) (k : Nat) (l : List Fi) : (loL pks k l).map Fi.no = (l.take k).map Fi.no := mapIdx_no (fun i f => crashF (pkAt pks i) f) (fun _ _ => rfl) _

theorem loL_all (pks : List (Int × List Int)) (l : List Fi) : loL pks l.length l = crashTo pks l.length l := by
  unfold loL crashTo
  rw [List.take_length]
  apply List.ext_getElem?
  intro i
  rw [List.getElem?_mapIdx, List.getElem?_mapIdx]
  cases h : l[i]? with
  | none => rfl
  | some f =>
    have hi := (List.getElem?_eq_some_iff.1 h).1
    simp [hi]

theorem loL_cs (pks : List (Int × List Int)) (k : Nat) (l : List Fi) : ∀ f ∈ loL pks k l, f.cs = [] := fun f hf => by
  obtain ⟨i, hi⟩ := List.mem_iff_getElem?.1 hf
  unfold loL at hi
  rw [List.getElem?_mapIdx] at hi
  cases h : (l.take k)[i]? with
  | none => rw [h] at hi; cases hi
  | some g => rw [h] at hi; simp at hi; rw [← hi]; rfl

theorem whL_cs (pks : List (Int × List Int)) (k : Nat) (l : List Fi) : ∀ f ∈ whL pks k l, f.cs = [] := fun f hf => by
  obtain ⟨i, hi⟩ := List.mem_iff_getElem?.1 hf
  unfold whL at hi
  rw [List.getElem?_mapIdx] at hi
  cases h : (l.take k)[i]? with
  | none => rw [h] at hi; cases hi
  | some g => rw [h] at hi; simp at hi; rw [← hi]; rfl

theorem whL_at (pks : List (Int × List Int)) (l : List Fi) (f : Fi) (hf : f ∈ whL pks l.length l) : ∃ i g, l[i]? = some g ∧ f = whF pks i g := by
  obtain ⟨i, hi⟩ := List.mem_iff_getElem?.1 hf
  unfold whL at hi
  rw [List.take_length, List.getElem?_mapIdx] at hi
  cases h : l[i]? with
  | none => rw [h] at hi; cases hi
  | some g => rw [h] at hi; simp at hi; exact ⟨i, g, h, hi.symm⟩

/-- A file of a row that is made. -/
def fcb (b : Int → Value) (f : Fi) : List Value := [.int .i64 f.no, b f.no, .slice none 0 0]

/-- Two rows of files that are made. -/
structure CrL (B : Nat) (W : World) (vw vl : Value) (bw bl : Int → Value) (fw fl : List Fi) : Prop where
  w : W.ownsRow B 141 3 vw fw.length (fw.flatMap (fcb bw))
  l : W.ownsRow B 141 3 vl fl.length (fl.flatMap (fcb bl))
  ne : ∀ q, vw.ownBlock = some q → vl.ownBlock ≠ some q
  dw : ∀ f ∈ fw, W.ownsRow B 5 1 (bw f.no) f.safe.length (B8 f.safe)
  dl : ∀ f ∈ fl, W.ownsRow B 5 1 (bl f.no) f.safe.length (B8 f.safe)

theorem CrL.swap {B : Nat} {W : World} {vw vl : Value} {bw bl : Int → Value} {fw fl : List Fi} (h : CrL B W vw vl bw bl fw fl) : CrL B W vl vw bl bw fl fw := ⟨h.l, h.w, fun q e e2 => h.ne q e2 e, h.dl, h.dw⟩

theorem CrL.kept {B : Nat} {W W' : World} {vw vl : Value} {bw bl : Int → Value} {fw fl : List Fi} {S : Nat → Prop} (h : CrL B W vw vl bw bl fw fl) (hk : Kept S W W') (hS : ∀ k, S k → B ≤ k → vw.ownBlock ≠ some k ∧ vl.ownBlock ≠ some k ∧ (∀ f ∈ fw, (bw f.no).ownBlock ≠ some k) ∧ ∀ f ∈ fl, (bl f.no).ownBlock ≠ some k) : CrL B W' vw vl bw bl fw fl :=
  ⟨ownsRow_kept h.w hk fun k e e2 => (hS k e2 (h.w.lt k e).1).1 e, ownsRow_kept h.l hk fun k e e2 => (hS k e2 (h.l.lt k e).1).2.1 e, h.ne, fun f hf => ownsRow_kept (h.dw f hf) hk fun k e e2 => (hS k e2 ((h.dw f hf).lt k e).1).2.2.1 f hf e, fun f hf => ownsRow_kept (h.dl f hf) hk fun k e e2 => (hS k e2 ((h.dl f hf).lt k e).1).2.2.2 f hf e⟩

theorem CrL.below {B : Nat} {W W' : World} {vw vl : Value} {bw bl : Int → Value} {fw fl : List Fi} (h : CrL B W vw vl bw bl fw fl) (hb : Below W.heap.size W W') : CrL B W' vw vl bw bl fw fl := h.kept (Kept.ofBelow hb) fun _ e => e.elim

/-- A file more in the first. -/
theorem CrL.push {B : Nat} {W W7 : World} {o : Obj} {vw vl v' v1 : Value} {bw bl : Int → Value} {fw fl : List Fi} (h : CrL B W vw vl bw bl fw fl) (no : Int) (xs : List Int) (hno : ∀ f ∈ fw, f.no ≠ no) (ho : W.ownsRow B 5 1 v1 xs.length (B8 xs)) (hown : W7.ownsRow B 141 3 v' (fw.length + 1) (fw.flatMap (fcb bw) ++ [.int .i64 no, v1, .slice none 0 0])) (hg : (W.alloc o).grownBy W7 vw.ownBlock) (hob : v'.ownBlock = vw.ownBlock ∨ v'.ownBlock = some (W.alloc o).heap.size) :
    CrL B W7 v' vl (fun m => if m = no then v1 else bw m) bl (fw ++ [⟨no, xs, []⟩]) fl := by
  have hk : Kept (fun q => vw.ownBlock = some q) W W7 := ((Kept.refl _ W).alloc _).grown hg (fun _ _ e => e)
  have e : fw.flatMap (fcb fun m => if m = no then v1 else bw m) = fw.flatMap (fcb bw) := fm_congr fun f hf => by simp [fcb, hno f hf]
  refine ⟨?_, ownsRow_kept h.l hk (fun k e e2 => h.ne k e2 e), fun q e2 => ?_, fun f hf => ?_, fun f hf => ownsRow_kept (h.dl f hf) hk (fun k e e2 => owns_ne (h.dl f hf) h.w (by decide) k e e2)⟩
  · rw [List.length_append, List.flatMap_append, e]
    simpa [fcb] using hown
  · rcases hob with e3 | e3
    · rw [e3] at e2; exact h.ne q e2
    · intro e4
      have := (h.l.lt q e4).2
      rw [e3] at e2
      injection e2 with e2
      simp at e2
      omega
  · rcases List.mem_append.1 hf with hf | hf
    · rw [if_neg (hno f hf)]
      exact ownsRow_kept (h.dw f hf) hk (fun k e e2 => owns_ne (h.dw f hf) h.w (by decide) k e e2)
    · rw [List.mem_singleton.1 hf]
      rw [if_pos rfl]
      exact ownsRow_kept ho hk (fun k e e2 => owns_ne ho h.w (by decide) k e e2)

theorem CrL.nil (B : Nat) (W : World) (b1 b2 : Int → Value) : CrL B W (.slice none 0 0) (.slice none 0 0) b1 b2 [] [] := ⟨owns_nil _ _ _ _, owns_nil _ _ _ _, fun q e => by simp [Value.ownBlock] at e, fun f hf => (by cases hf), fun f hf => (by cases hf)⟩

end Go.Proofs.YtlmompdfombgeaaGreat
