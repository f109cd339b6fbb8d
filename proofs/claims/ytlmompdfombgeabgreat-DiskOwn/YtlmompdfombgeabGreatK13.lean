import Derived.Test.YtlmompdfombgeabGreatK08
import Derived.Test.YtlmompdfombgeabGreatK12
namespace Go.Proofs.YtlmompdfombgeabGreat
open Go.RowKit Go.MapKept

/-- A row with one change done. -/
def doC (r : List Int × List Bool) : Chg → List Int × List Bool
  | .inl ys => (r.1 ++ ys, r.2 ++ List.replicate ys.length true)
  | .inr n => (r.1.take n, r.2.take n)

/-- Safe bytes with changes done. -/
def rowC (safe : List Int) (cs : List Chg) : List Int × List Bool := cs.foldl doC (safe, List.replicate safe.length false)

/-- The same with the greatest length so far. -/
def stepC (s : (List Int × List Bool) × Nat) (c : Chg) : (List Int × List Bool) × Nat := (doC s.1 c, max s.2 (doC s.1 c).1.length)

def peakC (safe : List Int) (cs : List Chg) : Nat := (cs.foldl stepC ((safe, List.replicate safe.length false), safe.length)).2

theorem rowC_snoc (safe : List Int) (cs : List Chg) (c : Chg) : rowC safe (cs ++ [c]) = doC (rowC safe cs) c := by simp [rowC, List.foldl_append]

theorem stepC_row : ∀ (cs : List Chg) (s : (List Int × List Bool) × Nat), (cs.foldl stepC s).1 = cs.foldl doC s.1
  | [], _ => rfl
  | c :: cs, s => by rw [List.foldl_cons, List.foldl_cons, stepC_row cs]; rfl

theorem peakC_nil (safe : List Int) : peakC safe [] = safe.length := rfl

theorem peakC_snoc (safe : List Int) (cs : List Chg) (c : Chg) : peakC safe (cs ++ [c]) = max (peakC safe cs) (rowC safe (cs ++ [c])).1.length := by
  rw [rowC_snoc]
  unfold peakC rowC
  rw [List.foldl_append, List.foldl_cons, List.foldl_nil, stepC, stepC_row]

theorem stepC_ge : ∀ (cs : List Chg) (s : (List Int × List Bool) × Nat), s.1.1.length ≤ s.2 → s.2 ≤ (cs.foldl stepC s).2 ∧ (cs.foldl stepC s).1.1.length ≤ (cs.foldl stepC s).2
  | [], s, h => ⟨Nat.le_refl _, h⟩
  | c :: cs, s, h => by
    have := stepC_ge cs (stepC s c) (by simp only [stepC]; omega)
    rw [List.foldl_cons]
    exact ⟨Nat.le_trans (by simp only [stepC]; omega) this.1, this.2⟩

theorem safe_le_peak (safe : List Int) (cs : List Chg) : safe.length ≤ peakC safe cs := (stepC_ge cs ((safe, List.replicate safe.length false), safe.length) (Nat.le_refl _)).1

theorem row_le_peak (safe : List Int) (cs : List Chg) : (rowC safe cs).1.length ≤ peakC safe cs := by
  have := (stepC_ge cs ((safe, List.replicate safe.length false), safe.length) (Nat.le_refl _)).2
  rw [stepC_row] at this
  exact this

theorem take_le_peak (safe : List Int) (cs : List Chg) (k : Nat) : (rowC safe (cs.take k)).1.length ≤ peakC safe cs := by
  have h : peakC safe (cs.take k) ≤ peakC safe cs := by
    conv => rhs; rw [← List.take_append_drop k cs]
    unfold peakC
    rw [List.foldl_append]
    refine (stepC_ge (cs.drop k) _ ?_).1
    exact (stepC_ge (cs.take k) ((safe, List.replicate safe.length false), safe.length) (Nat.le_refl _)).2
  exact Nat.le_trans (row_le_peak _ _) h

/-- What a row is: behind m old bytes stand t new ones. -/
def Shape (safe : List Int) (r : List Int × List Bool) : Prop := ∃ m t, r.2 = frs m t ∧ r.1.length = m + t ∧ m ≤ safe.length ∧ r.1.take m = safe.take m

theorem frs_take (m t n : Nat) : (frs m t).take n = frs (min n m) (min n (m + t) - min n m) := by
  unfold frs
  rw [List.take_append, List.take_replicate, List.take_replicate, List.length_replicate]
  congr 2
  omega

theorem Shape.doC {safe : List Int} {r : List Int × List Bool} (h : Shape safe r) (c : Chg) : Shape safe (doC r c) := by
  obtain ⟨m, t, h1, h2, h3, h4⟩ := h
  cases c with
  | inl ys =>
    refine ⟨m, t + ys.length, by simp only [Go.Proofs.YtlmompdfombgeabGreat.doC]; rw [h1, frs_app], by simp only [Go.Proofs.YtlmompdfombgeabGreat.doC, List.length_append]; omega, h3, ?_⟩
    simp only [Go.Proofs.YtlmompdfombgeabGreat.doC]
    rw [List.take_append_of_le_length (by omega), h4]
  | inr n =>
    refine ⟨min n m, min n (m + t) - min n m, by simp only [Go.Proofs.YtlmompdfombgeabGreat.doC]; rw [h1, frs_take], by simp only [Go.Proofs.YtlmompdfombgeabGreat.doC, List.length_take]; omega, by omega, ?_⟩
    simp only [Go.Proofs.YtlmompdfombgeabGreat.doC]
    rw [List.take_take, Nat.min_eq_left (by omega)]
    have := congrArg (List.take (min n m)) h4
    rw [List.take_take, List.take_take, Nat.min_eq_left (by omega)] at this
    exact this

theorem rowC_shape (safe : List Int) (cs : List Chg) : Shape safe (rowC safe cs) := by
  unfold rowC
  have : ∀ (cs : List Chg) (r : List Int × List Bool), Shape safe r → Shape safe (cs.foldl doC r) := by
    intro cs
    induction cs with
    | nil => intro r h; exact h
    | cons c cs ih => intro r h; exact ih _ (h.doC c)
  exact this cs _ ⟨safe.length, 0, by simp [frs], by simp, Nat.le_refl _, rfl⟩

theorem rowC_len (safe : List Int) (cs : List Chg) : (rowC safe cs).2.length = (rowC safe cs).1.length := by
  obtain ⟨m, t, h1, h2, _⟩ := rowC_shape safe cs
  rw [h1, frs_len, h2]

/-- A file that was made. -/
structure Fi where
  no : Int
  safe : List Int
  cs : List Chg

def Fi.row (f : Fi) : List Int × List Bool := rowC f.safe f.cs
def Fi.peak (f : Fi) : Nat := peakC f.safe f.cs

/-- A change of the names: from, to, the file. -/
abbrev Nmg := ByteArray × ByteArray × Int

/-- A disk. -/
structure Dq where
  room : Int
  limit : Int
  made : Int
  files : List Fi
  safeN : List (ByteArray × Int)
  turns : List Nmg
  off : Bool
  st : Int
  fs : List (Int × Int)
  rd : Int
  fr : List (Int × Int)

/-- Names without one. -/
def delA (k : ByteArray) (l : List (ByteArray × Int)) : List (ByteArray × Int) := l.filter fun x => !decide (x.1 = k)
/-- Names with one. -/
def setA (k : ByteArray) (v : Int) (l : List (ByteArray × Int)) : List (ByteArray × Int) := delA k l ++ [(k, v)]
/-- Names with a change done. -/
def doT (l : List (ByteArray × Int)) (x : Nmg) : List (ByteArray × Int) := if x.2.1.toList.isEmpty then delA x.1 l else setA x.2.1 x.2.2 (delA x.1 l)

/-- The names with the first k changes done. -/
def Dq.namesAt (D : Dq) (k : Nat) : List (ByteArray × Int) := (D.turns.take k).foldl doT D.safeN
/-- The names. -/
def Dq.names (D : Dq) : List (ByteArray × Int) := D.turns.foldl doT D.safeN

/-- The blocks of a file. -/
def ftOf (p : Nat) (pend : List Value) (vs vp vd vf : Value) (k : Nat) : Prop :=
  k = p ∨ vs.ownBlock = some k ∨ vp.ownBlock = some k ∨ vd.ownBlock = some k ∨ vf.ownBlock = some k ∨ ∃ sv, Value.iface 116 sv ∈ pend ∧ sv.ownBlock = some k

/-- A file in the heap, with its blocks. -/
def Fil (w : World) (ft : Nat → Prop) (p : Nat) (f : Fi) : Prop :=
  ∃ pend vs vp vd vf, FileAt w 0 p f.safe pend f.row.1 f.row.2 (f.peak : Nat) vs vp vd vf ∧ Pends w 0 vs vd pend f.cs ∧ ∀ k, ft k ↔ ftOf p pend vs vp vd vf k

theorem ChgAt.keptOf {w w' : World} {B : Nat} {vs vd v : Value} {c : Chg} {S : Nat → Prop} (h : ChgAt w B vs vd v c) (hk : Kept S w w') (hS : ∀ sv k, v = .iface 116 sv → sv.ownBlock = some k → ¬ S k) {vs' vd' : Value}
    (h1 : vs'.ownBlock = vs.ownBlock ∨ ∀ k, vs'.ownBlock = some k → w.heap.size ≤ k) (h2 : vd'.ownBlock = vd.ownBlock ∨ ∀ k, vd'.ownBlock = some k → w.heap.size ≤ k) : ChgAt w' B vs' vd' v c := by
  cases c with
  | inr n => exact h
  | inl ys =>
    obtain ⟨sv, rfl, hs, hb⟩ := h
    refine ⟨sv, rfl, hs.kept hk (fun k e => hS sv k rfl e), fun k e => ?_⟩
    obtain ⟨x, ⟨cs, a⟩, b, c⟩ := hb k e
    refine ⟨x, ⟨cs, hp_kept a hk (hS sv k rfl e)⟩, ?_, ?_⟩
    · rcases h1 with h1 | h1
      · rw [h1]; exact b
      · intro e2; have := h1 k e2; have := hp_lt a; omega
    · rcases h2 with h2 | h2
      · rw [h2]; exact c
      · intro e2; have := h2 k e2; have := hp_lt a; omega

theorem Pends.keptOf {w w' : World} {B : Nat} {vs vd : Value} {pend : List Value} {cs : List Chg} {S : Nat → Prop} (h : Pends w B vs vd pend cs) (hk : Kept S w w') (hS : ∀ sv k, Value.iface 116 sv ∈ pend → sv.ownBlock = some k → ¬ S k) {vs' vd' : Value}
    (h1 : vs'.ownBlock = vs.ownBlock ∨ ∀ k, vs'.ownBlock = some k → w.heap.size ≤ k) (h2 : vd'.ownBlock = vd.ownBlock ∨ ∀ k, vd'.ownBlock = some k → w.heap.size ≤ k) : Pends w' B vs' vd' pend cs :=
  ⟨h.1, fun i v c a b => (h.2 i v c a b).keptOf hk (fun sv k e => hS sv k (by rw [← e]; exact List.mem_of_getElem? a)) h1 h2⟩

theorem Fil.kept {w w' : World} {ft : Nat → Prop} {p : Nat} {f : Fi} {S : Nat → Prop} (h : Fil w ft p f) (hk : Kept S w w') (hS : ∀ k, ft k → ¬ S k) : Fil w' ft p f := by
  obtain ⟨pend, vs, vp, vd, vf, hf, hp, ht⟩ := h
  refine ⟨pend, vs, vp, vd, vf, hf.kept hk (hS _ ((ht _).2 (.inl rfl))) (fun k e => hS _ ((ht _).2 (.inr (.inl e)))) (fun k e => hS _ ((ht _).2 (.inr (.inr (.inl e))))) (fun k e => hS _ ((ht _).2 (.inr (.inr (.inr (.inl e)))))) (fun k e => hS _ ((ht _).2 (.inr (.inr (.inr (.inr (.inl e))))))), ?_, ht⟩
  exact hp.keptOf hk (fun sv k hm e => hS k ((ht k).2 (.inr (.inr (.inr (.inr (.inr ⟨sv, hm, e⟩))))))) (.inl rfl) (.inl rfl)

theorem Fil.below {w w' : World} {ft : Nat → Prop} {p : Nat} {f : Fi} (h : Fil w ft p f) (hk : Below w.heap.size w w') : Fil w' ft p f := h.kept (Kept.ofBelow hk) (fun _ _ e => e)

/-- The kinds of a file's blocks. -/
theorem Fil.typed {w : World} {ft : Nat → Prop} {p : Nat} {f : Fi} (h : Fil w ft p f) (k : Nat) (hk : ft k) : ∃ cs t, w.heap[k]? = some (.cells cs t (0, 0)) ∧ (t = 96 ∨ t = 5 ∨ t = 4 ∨ t = 134) := by
  obtain ⟨pend, vs, vp, vd, vf, hf, hp, ht⟩ := h
  rcases (ht k).1 hk with rfl | e | e | e | e | ⟨sv, hm, e⟩
  · exact ⟨_, _, hf.blk, .inl rfl⟩
  · obtain ⟨cs, a⟩ := owns_block hf.os k e; exact ⟨_, _, a, .inr (.inl rfl)⟩
  · obtain ⟨cs, a⟩ := owns_block hf.op k e; exact ⟨_, _, a, .inr (.inr (.inr rfl))⟩
  · obtain ⟨cs, a⟩ := owns_block hf.od k e; exact ⟨_, _, a, .inr (.inl rfl)⟩
  · obtain ⟨cs, a⟩ := owns_block hf.of k e; exact ⟨_, _, a, .inr (.inr (.inl rfl))⟩
  · obtain ⟨i, hi, hv⟩ := List.mem_iff_getElem.1 hm
    have hi2 : i < f.cs.length := by have := hp.1; omega
    have := hp.2 i _ _ (by rw [List.getElem?_eq_getElem hi, hv]) (List.getElem?_eq_getElem hi2)
    cases hc : f.cs[i] with
    | inr n => rw [hc] at this; cases this
    | inl ys =>
      rw [hc] at this
      obtain ⟨sv', e', _, hb⟩ := this
      injection e' with _ e'
      subst e'
      obtain ⟨_, ⟨cs, a⟩, _⟩ := hb k e
      exact ⟨cs, 5, a, .inr (.inl rfl)⟩

theorem Fil.lt {w : World} {ft : Nat → Prop} {p : Nat} {f : Fi} (h : Fil w ft p f) (k : Nat) (hk : ft k) : k < w.heap.size := by
  obtain ⟨cs, t, a, _⟩ := h.typed k hk
  exact hp_lt a

theorem Fil.self {w : World} {ft : Nat → Prop} {p : Nat} {f : Fi} (h : Fil w ft p f) : ft p := by
  obtain ⟨pend, vs, vp, vd, vf, hf, hp, ht⟩ := h
  exact (ht p).2 (.inl rfl)

end Go.Proofs.YtlmompdfombgeabGreat

namespace Go.Proofs.YtlmompdfombgeabGreat
open Go.RowKit Go.MapKept

/-- Where the parts of a disk lie. -/
structure Wt where
  L : Nat
  N : Nat
  F : Nat
  vn : Value
  k1 : Value
  k2 : Value
  kl : List (Int × Value)
  eL : Array MapEntry
  cL : Nat
  kn : List (ByteArray × Value)
  eN : Array MapEntry
  cN : Nat
  kf : List (ByteArray × Value)
  eF : Array MapEntry
  cF : Nat
  ft : Int → Nat → Prop
  pt : Int → Nat

/-- The living files as a map. -/
def encL (pt : Int → Nat) (l : List Fi) : List (Int × Value) := l.map fun f => (f.no, .pointer (some ⟨pt f.no, 0, none⟩))
/-- Names as a map. -/
def encN (l : List (ByteArray × Int)) : List (ByteArray × Value) := l.map fun x => (x.1, .int .i64 x.2)
/-- Changes of names as a row. -/
def encT (l : List Nmg) : List Value := l.flatMap fun x => [.string x.1, .string x.2.1, .int .i64 x.2.2]

/-- A disk in the heap. -/
structure DkT (w : World) (d : Nat) (t : Wt) (D : Dq) : Prop where
  disk : DiskB w d D.room D.limit (.map (some t.L)) D.made (.map (some t.N)) (.map (some t.F)) t.vn D.off D.st t.k1 D.rd t.k2
  hL : MG KI w t.L t.kl t.eL t.cL
  hN : MG KS w t.N t.kn t.eN t.cN
  hF : MG KS w t.F t.kf t.eF t.cF
  pl : t.kl.Perm (encL t.pt D.files)
  pn : t.kn.Perm (encN D.names)
  pf : t.kf.Perm (encN D.safeN)
  ln : t.L ≠ t.N
  lf : t.L ≠ t.F
  nf : t.N ≠ t.F
  fil : ∀ f ∈ D.files, Fil w (t.ft f.no) (t.pt f.no) f
  dis : ∀ f ∈ D.files, ∀ g ∈ D.files, f.no ≠ g.no → ∀ k, t.ft f.no k → ¬ t.ft g.no k
  nam : w.ownsRow 0 104 3 t.vn D.turns.length (encT D.turns)
  kf1 : KF w t.k1 D.fs
  kf2 : KF w t.k2 D.fr
  kd : ∀ b, t.k1 = .map (some b) ∨ t.k2 = .map (some b) → b ≠ t.L ∧ b ≠ t.N ∧ b ≠ t.F

/-- The blocks of a disk. -/
def Dft (d : Nat) (t : Wt) (D : Dq) (k : Nat) : Prop :=
  k = d ∨ k = t.L ∨ k = t.N ∨ k = t.F ∨ t.vn.ownBlock = some k ∨ t.k1 = .map (some k) ∨ t.k2 = .map (some k) ∨ ∃ f ∈ D.files, t.ft f.no k

theorem KF.keptOf {w w' : World} {k : Value} {fs : List (Int × Int)} {S : Nat → Prop} (h : KF w k fs) (hk : Kept S w w') (hS : ∀ b, k = .map (some b) → ¬ S b) : KF w' k fs := by
  rcases h with h | ⟨b, es, c, h1, h2, h3⟩
  · exact .inl h
  · exact .inr ⟨b, es, c, h1, hp_kept h2 hk (hS b h1), h3⟩

theorem KF.blk {w : World} {b : Nat} {fs : List (Int × Int)} (h : KF w (.map (some b)) fs) : ∃ es c, w.heap[b]? = some (.map es c) := by
  rcases h with ⟨h, _⟩ | ⟨b', es, c, h1, h2, _⟩
  · cases h
  · cases h1; exact ⟨es, c, h2⟩

theorem DkT.lt {w : World} {d : Nat} {t : Wt} {D : Dq} (h : DkT w d t D) (k : Nat) (hk : Dft d t D k) : k < w.heap.size := by
  rcases hk with rfl | rfl | rfl | rfl | e | e | e | ⟨f, hf, e⟩
  · exact hp_lt h.disk
  · exact hp_lt h.hL.blk
  · exact hp_lt h.hN.blk
  · exact hp_lt h.hF.blk
  · obtain ⟨cs, a⟩ := owns_block h.nam k e; exact hp_lt a
  · obtain ⟨es, c, a⟩ := (show KF w (.map (some k)) D.fs from e ▸ h.kf1).blk; exact hp_lt a
  · obtain ⟨es, c, a⟩ := (show KF w (.map (some k)) D.fr from e ▸ h.kf2).blk; exact hp_lt a
  · exact (h.fil f hf).lt k e

theorem DkT.kept {w w' : World} {d : Nat} {t : Wt} {D : Dq} {S : Nat → Prop} (h : DkT w d t D) (hk : Kept S w w') (hS : ∀ k, Dft d t D k → ¬ S k) : DkT w' d t D where
  disk := hp_kept h.disk hk (hS _ (.inl rfl))
  hL := h.hL.kept hk (hS _ (.inr (.inl rfl)))
  hN := h.hN.kept hk (hS _ (.inr (.inr (.inl rfl))))
  hF := h.hF.kept hk (hS _ (.inr (.inr (.inr (.inl rfl)))))
  pl := h.pl
  pn := h.pn
  pf := h.pf
  ln := h.ln
  lf := h.lf
  nf := h.nf
  fil := fun f hf => (h.fil f hf).kept hk (fun k e => hS k (.inr (.inr (.inr (.inr (.inr (.inr (.inr ⟨f, hf, e⟩))))))))
  dis := h.dis
  nam := ownsRow_kept h.nam hk (fun k e => hS k (.inr (.inr (.inr (.inr (.inl e))))))
  kf1 := h.kf1.keptOf hk (fun k e => hS k (.inr (.inr (.inr (.inr (.inr (.inl e)))))))
  kf2 := h.kf2.keptOf hk (fun k e => hS k (.inr (.inr (.inr (.inr (.inr (.inr (.inl e))))))))
  kd := h.kd

theorem DkT.below {w w' : World} {d : Nat} {t : Wt} {D : Dq} (h : DkT w d t D) (hk : Below w.heap.size w w') : DkT w' d t D := h.kept (Kept.ofBelow hk) (fun _ _ e => e)

/-- A disk's own block is none of its other blocks. -/
theorem DkT.apart {w : World} {d : Nat} {t : Wt} {D : Dq} (h : DkT w d t D) : d ≠ t.L ∧ d ≠ t.N ∧ d ≠ t.F ∧ t.vn.ownBlock ≠ some d ∧ t.k1 ≠ .map (some d) ∧ t.k2 ≠ .map (some d) ∧ ∀ f ∈ D.files, ¬ t.ft f.no d := by
  refine ⟨hp_ne h.disk h.hL.blk (by simp), hp_ne h.disk h.hN.blk (by simp), hp_ne h.disk h.hF.blk (by simp), own_ne_blk h.nam h.disk (by decide), fun e => ?_, fun e => ?_, fun f hf e => ?_⟩
  · obtain ⟨es, c, a⟩ := (show KF w (.map (some d)) D.fs from e ▸ h.kf1).blk
    exact hp_ne h.disk a (by simp) rfl
  · obtain ⟨es, c, a⟩ := (show KF w (.map (some d)) D.fr from e ▸ h.kf2).blk
    exact hp_ne h.disk a (by simp) rfl
  · obtain ⟨cs, ty, a, b⟩ := (h.fil f hf).typed d e
    refine hp_ne h.disk a ?_ rfl
    intro e2
    injection e2 with _ e3
    subst e3
    rcases b with b | b | b | b <;> exact absurd b (by decide)

/-- A file's block is no map and no row of names. -/
theorem DkT.fapart {w : World} {d : Nat} {t : Wt} {D : Dq} (h : DkT w d t D) {f : Fi} (hf : f ∈ D.files) {k : Nat} (hk : t.ft f.no k) : k ≠ d ∧ k ≠ t.L ∧ k ≠ t.N ∧ k ≠ t.F ∧ t.vn.ownBlock ≠ some k ∧ t.k1 ≠ .map (some k) ∧ t.k2 ≠ .map (some k) := by
  obtain ⟨cs, ty, a, b⟩ := (h.fil f hf).typed k hk
  refine ⟨fun e => ?_, hp_ne a h.hL.blk (by simp), hp_ne a h.hN.blk (by simp), hp_ne a h.hF.blk (by simp), ?_, fun e => ?_, fun e => ?_⟩
  · subst e; exact h.apart.2.2.2.2.2.2 f hf hk
  · exact own_ne_blk h.nam a (by rcases b with rfl | rfl | rfl | rfl <;> decide)
  · obtain ⟨es, c, a'⟩ := (show KF w (.map (some k)) D.fs from e ▸ h.kf1).blk
    exact hp_ne a a' (by simp) rfl
  · obtain ⟨es, c, a'⟩ := (show KF w (.map (some k)) D.fr from e ▸ h.kf2).blk
    exact hp_ne a a' (by simp) rfl

/-- From one disk to another. -/
structure Goes (d : Nat) (w : World) (t : Wt) (D : Dq) (w' : World) (t' : Wt) (D' : Dq) : Prop where
  dk : DkT w' d t' D'
  kp : Kept (Dft d t D) w w'
  ft : ∀ k, Dft d t' D' k → Dft d t D k ∨ w.heap.size ≤ k

theorem Goes.still {d : Nat} {w w' : World} {t : Wt} {D : Dq} (h : DkT w d t D) (hk : Below w.heap.size w w') : Goes d w t D w' t D :=
  ⟨h.below hk, (Kept.ofBelow hk).mono (fun _ _ e => e.elim), fun _ e => .inl e⟩

theorem Goes.trans {d : Nat} {w w' w'' : World} {t t' t'' : Wt} {D D' D'' : Dq} (h : Goes d w t D w' t' D') (h' : Goes d w' t' D' w'' t'' D'') : Goes d w t D w'' t'' D'' := by
  refine ⟨h'.dk, h.kp.trans h'.kp (fun i hi e => ?_), fun k e => ?_⟩
  · rcases h.ft i e with e | e
    · exact e
    · omega
  · rcases h'.ft k e with e | e
    · exact h.ft k e
    · exact .inr (Nat.le_trans h.kp.size e)

/-- Only the disk's own block is another. -/
theorem DkT.about {w w' : World} {d : Nat} {t : Wt} {D D' : Dq} (h : DkT w d t D) (hk : Kept (fun k => k = d) w w')
    (hd : DiskB w' d D'.room D'.limit (.map (some t.L)) D'.made (.map (some t.N)) (.map (some t.F)) t.vn D'.off D'.st t.k1 D'.rd t.k2)
    (e1 : D'.files = D.files) (e3 : D'.safeN = D.safeN) (e4 : D'.turns = D.turns) (e5 : D'.fs = D.fs) (e6 : D'.fr = D.fr) : Goes d w t D w' t D' := by
  obtain ⟨a1, a2, a3, a4, a5, a6, a7⟩ := h.apart
  refine ⟨⟨hd, h.hL.kept hk (fun e => a1 e.symm), h.hN.kept hk (fun e => a2 e.symm), h.hF.kept hk (fun e => a3 e.symm), by rw [e1]; exact h.pl, by unfold Dq.names; rw [e3, e4]; exact h.pn, by rw [e3]; exact h.pf, h.ln, h.lf, h.nf, ?_, ?_, ?_, ?_, ?_, h.kd⟩, hk.mono (fun _ _ e => .inl e), ?_⟩
  · rw [e1]; exact fun f hf => (h.fil f hf).kept hk (fun k e e' => by subst e'; exact a7 f hf e)
  · rw [e1]; exact h.dis
  · rw [e4]; exact ownsRow_kept h.nam hk (fun k e e' => by subst e'; exact a4 e)
  · rw [e5]; exact h.kf1.keptOf hk (fun b e e' => by subst e'; exact a5 e)
  · rw [e6]; exact h.kf2.keptOf hk (fun b e e' => by subst e'; exact a6 e)
  · rintro k (e | e | e | e | e | e | e | ⟨f, hf, e⟩)
    · exact .inl (.inl e)
    · exact .inl (.inr (.inl e))
    · exact .inl (.inr (.inr (.inl e)))
    · exact .inl (.inr (.inr (.inr (.inl e))))
    · exact .inl (.inr (.inr (.inr (.inr (.inl e)))))
    · exact .inl (.inr (.inr (.inr (.inr (.inr (.inl e))))))
    · exact .inl (.inr (.inr (.inr (.inr (.inr (.inr (.inl e)))))))
    · exact .inl (.inr (.inr (.inr (.inr (.inr (.inr (.inr ⟨f, by rw [← e1]; exact hf, e⟩)))))))

/-- A file put in another's place. -/
def setF (f : Fi) (l : List Fi) : List Fi := l.map fun g => if g.no = f.no then f else g

theorem setF_no (f : Fi) (l : List Fi) : (setF f l).map Fi.no = l.map Fi.no := by
  simp only [setF, List.map_map]
  refine List.map_congr_left fun g _ => ?_
  simp only [Function.comp]
  split
  · rename_i h; exact h.symm
  · rfl

theorem encL_setF (pt : Int → Nat) (f : Fi) (l : List Fi) : encL pt (setF f l) = encL pt l := by
  unfold encL setF
  rw [List.map_map]
  refine List.map_congr_left fun g _ => ?_
  simp only [Function.comp]
  split
  · rename_i h; rw [h]
  · rfl

theorem mem_setF {f g : Fi} {l : List Fi} (h : g ∈ setF f l) : (g = f ∧ ∃ x ∈ l, x.no = f.no) ∨ (g ∈ l ∧ g.no ≠ f.no) := by
  obtain ⟨x, hx, e⟩ := List.mem_map.1 h
  split at e
  · rename_i hq; exact .inl ⟨e.symm, x, hx, hq⟩
  · rename_i hq; rw [← e]; exact .inr ⟨hx, hq⟩

/-- Only one file is another. -/
theorem DkT.changeB {w w' : World} {d : Nat} {t : Wt} {D : Dq} (h : DkT w d t D) {f f' : Fi} (hf : f ∈ D.files) (hn : f'.no = f.no) (hk : Kept (t.ft f.no) w w') {ft' : Nat → Prop} (hf' : Fil w' ft' (t.pt f.no) f') (Bs : Nat) (hBs : ∀ k, Dft d t D k → k < Bs) (hft : ∀ k, ft' k → t.ft f.no k ∨ Bs ≤ k) :
    DkT w' d { t with ft := fun n => if n = f.no then ft' else t.ft n } { D with files := setF f' D.files } ∧ Kept (Dft d t D) w w' ∧ ∀ k, Dft d { t with ft := fun n => if n = f.no then ft' else t.ft n } { D with files := setF f' D.files } k → Dft d t D k ∨ Bs ≤ k := by
  have fa : ∀ k, t.ft f.no k → k ≠ d ∧ k ≠ t.L ∧ k ≠ t.N ∧ k ≠ t.F ∧ t.vn.ownBlock ≠ some k ∧ t.k1 ≠ .map (some k) ∧ t.k2 ≠ .map (some k) := fun k e => h.fapart hf e
  have hlt : ∀ g ∈ D.files, ∀ k, t.ft g.no k → k < Bs := fun g hg k e => hBs k (.inr (.inr (.inr (.inr (.inr (.inr (.inr ⟨g, hg, e⟩)))))))
  refine ⟨⟨hp_kept h.disk hk (fun e => (fa _ e).1 rfl), h.hL.kept hk (fun e => (fa _ e).2.1 rfl), h.hN.kept hk (fun e => (fa _ e).2.2.1 rfl), h.hF.kept hk (fun e => (fa _ e).2.2.2.1 rfl), ?_, h.pn, h.pf, h.ln, h.lf, h.nf, ?_, ?_, ownsRow_kept h.nam hk (fun k e e' => (fa _ e').2.2.2.2.1 e), h.kf1.keptOf hk (fun b e e' => (fa _ e').2.2.2.2.2.1 e), h.kf2.keptOf hk (fun b e e' => (fa _ e').2.2.2.2.2.2 e), h.kd⟩, ?_, ?_⟩
  · show t.kl.Perm (encL t.pt (setF f' D.files))
    rw [encL_setF]
    exact h.pl
  · intro g hg
    rcases mem_setF hg with ⟨rfl, _⟩ | ⟨hg, hne⟩
    · show Fil w' (if g.no = f.no then ft' else t.ft g.no) (t.pt g.no) g
      rw [if_pos hn, hn]
      exact hf'
    · have hne' : g.no ≠ f.no := by rw [← hn]; exact hne
      show Fil w' (if g.no = f.no then ft' else t.ft g.no) (t.pt g.no) g
      rw [if_neg hne']
      exact (h.fil g hg).kept hk (fun k e e' => h.dis g hg f hf hne' k e e')
  · intro g hg g' hg' hne k
    show (if g.no = f.no then ft' else t.ft g.no) k → ¬ (if g'.no = f.no then ft' else t.ft g'.no) k
    have key : ∀ x ∈ D.files, x.no ≠ f.no → ft' k → ¬ t.ft x.no k := fun x hx hxn e e' => by
      rcases hft k e with e | e
      · exact h.dis x hx f hf hxn k e' e
      · have := hlt x hx k e'; omega
    rcases mem_setF hg with ⟨e1, _⟩ | ⟨hm, hg2⟩ <;> rcases mem_setF hg' with ⟨e2, _⟩ | ⟨hm', hg2'⟩
    · rw [e1, e2] at hne
      exact absurd rfl hne
    · rw [hn] at hg2'
      rw [if_pos (show g.no = f.no by rw [e1]; exact hn), if_neg hg2']
      exact key g' hm' hg2'
    · rw [hn] at hg2
      rw [if_neg hg2, if_pos (show g'.no = f.no by rw [e2]; exact hn)]
      exact fun e e' => key g hm hg2 e' e
    · rw [hn] at hg2 hg2'
      rw [if_neg hg2, if_neg hg2']
      exact h.dis g hm g' hm' hne k
  · exact hk.mono (fun k _ e => .inr (.inr (.inr (.inr (.inr (.inr (.inr ⟨f, hf, e⟩)))))))
  · rintro k (e | e | e | e | e | e | e | ⟨g, hg, e⟩)
    · exact .inl (.inl e)
    · exact .inl (.inr (.inl e))
    · exact .inl (.inr (.inr (.inl e)))
    · exact .inl (.inr (.inr (.inr (.inl e))))
    · exact .inl (.inr (.inr (.inr (.inr (.inl e)))))
    · exact .inl (.inr (.inr (.inr (.inr (.inr (.inl e))))))
    · exact .inl (.inr (.inr (.inr (.inr (.inr (.inr (.inl e)))))))
    · replace e : (if g.no = f.no then ft' else t.ft g.no) k := e
      rcases mem_setF hg with ⟨rfl, _⟩ | ⟨hg, hg2⟩
      · rw [if_pos hn] at e
        rcases hft k e with e | e
        · exact .inl (.inr (.inr (.inr (.inr (.inr (.inr (.inr ⟨f, hf, e⟩)))))))
        · exact .inr e
      · rw [hn] at hg2
        rw [if_neg hg2] at e
        exact .inl (.inr (.inr (.inr (.inr (.inr (.inr (.inr ⟨g, hg, e⟩)))))))

theorem DkT.change {w w' : World} {d : Nat} {t : Wt} {D : Dq} (h : DkT w d t D) {f f' : Fi} (hf : f ∈ D.files) (hn : f'.no = f.no) (hk : Kept (t.ft f.no) w w') {ft' : Nat → Prop} (hf' : Fil w' ft' (t.pt f.no) f') (hft : ∀ k, ft' k → t.ft f.no k ∨ w.heap.size ≤ k) :
    Goes d w t D w' { t with ft := fun n => if n = f.no then ft' else t.ft n } { D with files := setF f' D.files } := by
  obtain ⟨a, b, c⟩ := h.changeB hf hn hk hf' w.heap.size (fun k e => h.lt k e) hft
  exact ⟨a, b, c⟩

end Go.Proofs.YtlmompdfombgeabGreat
