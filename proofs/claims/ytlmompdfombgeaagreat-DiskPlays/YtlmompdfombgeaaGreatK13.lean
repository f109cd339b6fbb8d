import Derived.Test.YtlmompdfombgeaaGreatK12
namespace Go.Proofs.YtlmompdfombgeaaGreat
open Go.RowKit Go.MapKept

/-- Where the parts of a disk lie. -/
structure Wt where
  L : Nat
  N : Nat
  F : Nat
  vn : Value
  k1 : Value
  k2 : Value
  kl : List (Int × Value)
  eL : Array MapEntry
  cL : Nat
  kn : List (ByteArray × Value)
  eN : Array MapEntry
  cN : Nat
  kf : List (ByteArray × Value)
  eF : Array MapEntry
  cF : Nat
  ft : Int → Nat → Prop
  pt : Int → Nat

/-- The living files as a map. -/
def encL (pt : Int → Nat) (l : List Fi) : List (Int × Value) := l.map fun f => (f.no, .pointer (some ⟨pt f.no, 0, none⟩))
/-- Names as a map. -/
def encN (l : List (ByteArray × Int)) : List (ByteArray × Value) := l.map fun x => (x.1, .int .i64 x.2)
/-- Changes of names as a row. -/
def encT (l : List Nmg) : List Value := l.flatMap fun x => [.string x.1, .string x.2.1, .int .i64 x.2.2]

/-- A disk in the heap. -/
structure DkT (w : World) (d : Nat) (t : Wt) (D : Dq) : Prop where
  disk : DiskB w d D.room D.limit (.map (some t.L)) D.made (.map (some t.N)) (.map (some t.F)) t.vn D.off D.st t.k1 D.rd t.k2
  hL : MG KI w t.L t.kl t.eL t.cL
  hN : MG KS w t.N t.kn t.eN t.cN
  hF : MG KS w t.F t.kf t.eF t.cF
  pl : t.kl.Perm (encL t.pt D.files)
  pn : t.kn.Perm (encN D.names)
  pf : t.kf.Perm (encN D.safeN)
  ln : t.L ≠ t.N
  lf : t.L ≠ t.F
  nf : t.N ≠ t.F
  fil : ∀ f ∈ D.files, Fil w (t.ft f.no) (t.pt f.no) f
  dis : ∀ f ∈ D.files, ∀ g ∈ D.files, f.no ≠ g.no → ∀ k, t.ft f.no k → ¬ t.ft g.no k
  nam : w.ownsRow 0 121 3 t.vn D.turns.length (encT D.turns)
  kf1 : KF w t.k1 D.fs
  kf2 : KF w t.k2 D.fr
  kd : ∀ b, t.k1 = .map (some b) ∨ t.k2 = .map (some b) → b ≠ t.L ∧ b ≠ t.N ∧ b ≠ t.F

/-- The blocks of a disk. -/
def Dft (d : Nat) (t : Wt) (D : Dq) (k : Nat) : Prop :=
  k = d ∨ k = t.L ∨ k = t.N ∨ k = t.F ∨ t.vn.ownBlock = some k ∨ t.k1 = .map (some k) ∨ t.k2 = .map (some k) ∨ ∃ f ∈ D.files, t.ft f.no k

theorem KF.keptOf {w w' : World} {k : Value} {fs : List (Int × Int)} {S : Nat → Prop} (h : KF w k fs) (hk : Kept S w w') (hS : ∀ b, k = .map (some b) → ¬ S b) : KF w' k fs := by
  rcases h with h | ⟨b, es, c, h1, h2, h3⟩
  · exact .inl h
  · exact .inr ⟨b, es, c, h1, hp_kept h2 hk (hS b h1), h3⟩

theorem KF.blk {w : World} {b : Nat} {fs : List (Int × Int)} (h : KF w (.map (some b)) fs) : ∃ es c, w.heap[b]? = some (.map es c) := by
  rcases h with ⟨h, _⟩ | ⟨b', es, c, h1, h2, _⟩
  · cases h
  · cases h1; exact ⟨es, c, h2⟩

theorem DkT.lt {w : World} {d : Nat} {t : Wt} {D : Dq} (h : DkT w d t D) (k : Nat) (hk : Dft d t D k) : k < w.heap.size := by
  rcases hk with rfl | rfl | rfl | rfl | e | e | e | ⟨f, hf, e⟩
  · exact hp_lt h.disk
  · exact hp_lt h.hL.blk
  · exact hp_lt h.hN.blk
  · exact hp_lt h.hF.blk
  · obtain ⟨cs, a⟩ := owns_block h.nam k e; exact hp_lt a
  · obtain ⟨es, c, a⟩ := (show KF w (.map (some k)) D.fs from e ▸ h.kf1).blk; exact hp_lt a
  · obtain ⟨es, c, a⟩ := (show KF w (.map (some k)) D.fr from e ▸ h.kf2).blk; exact hp_lt a
  · exact (h.fil f hf).lt k e

theorem DkT.kept {w w' : World} {d : Nat} {t : Wt} {D : Dq} {S : Nat → Prop} (h : DkT w d t D) (hk : Kept S w w') (hS : ∀ k, Dft d t D k → ¬ S k) : DkT w' d t D where
  disk := hp_kept h.disk hk (hS _ (.inl rfl))
  hL := h.hL.kept hk (hS _ (.inr (.inl rfl)))
  hN := h.hN.kept hk (hS _ (.inr (.inr (.inl rfl))))
  hF := h.hF.kept hk (hS _ (.inr (.inr (.inr (.inl rfl)))))
  pl := h.pl
  pn := h.pn
  pf := h.pf
  ln := h.ln
  lf := h.lf
  nf := h.nf
  fil := fun f hf => (h.fil f hf).kept hk (fun k e => hS k (.inr (.inr (.inr (.inr (.inr (.inr (.inr ⟨f, hf, e⟩))))))))
  dis := h.dis
  nam := ownsRow_kept h.nam hk (fun k e => hS k (.inr (.inr (.inr (.inr (.inl e))))))
  kf1 := h.kf1.keptOf hk (fun k e => hS k (.inr (.inr (.inr (.inr (.inr (.inl e)))))))
  kf2 := h.kf2.keptOf hk (fun k e => hS k (.inr (.inr (.inr (.inr (.inr (.inr (.inl e))))))))
  kd := h.kd

theorem DkT.below {w w' : World} {d : Nat} {t : Wt} {D : Dq} (h : DkT w d t D) (hk : Below w.heap.size w w') : DkT w' d t D := h.kept (Kept.ofBelow hk) (fun _ _ e => e)

/-- A disk's own block is none of its other blocks. -/
theorem DkT.apart {w : World} {d : Nat} {t : Wt} {D : Dq} (h : DkT w d t D) : d ≠ t.L ∧ d ≠ t.N ∧ d ≠ t.F ∧ t.vn.ownBlock ≠ some d ∧ t.k1 ≠ .map (some d) ∧ t.k2 ≠ .map (some d) ∧ ∀ f ∈ D.files, ¬ t.ft f.no d := by
  refine ⟨hp_ne h.disk h.hL.blk (by simp), hp_ne h.disk h.hN.blk (by simp), hp_ne h.disk h.hF.blk (by simp), own_ne_blk h.nam h.disk (by decide), fun e => ?_, fun e => ?_, fun f hf e => ?_⟩
  · obtain ⟨es, c, a⟩ := (show KF w (.map (some d)) D.fs from e ▸ h.kf1).blk
    exact hp_ne h.disk a (by simp) rfl
  · obtain ⟨es, c, a⟩ := (show KF w (.map (some d)) D.fr from e ▸ h.kf2).blk
    exact hp_ne h.disk a (by simp) rfl
  · obtain ⟨cs, ty, a, b⟩ := (h.fil f hf).typed d e
    refine hp_ne h.disk a ?_ rfl
    intro e2
    injection e2 with _ e3
    subst e3
    rcases b with b | b | b | b <;> exact absurd b (by decide)

/-- A file's block is no map and no row of names. -/
theorem DkT.fapart {w : World} {d : Nat} {t : Wt} {D : Dq} (h : DkT w d t D) {f : Fi} (hf : f ∈ D.files) {k : Nat} (hk : t.ft f.no k) : k ≠ d ∧ k ≠ t.L ∧ k ≠ t.N ∧ k ≠ t.F ∧ t.vn.ownBlock ≠ some k ∧ t.k1 ≠ .map (some k) ∧ t.k2 ≠ .map (some k) := by
  obtain ⟨cs, ty, a, b⟩ := (h.fil f hf).typed k hk
  refine ⟨fun e => ?_, hp_ne a h.hL.blk (by simp), hp_ne a h.hN.blk (by simp), hp_ne a h.hF.blk (by simp), ?_, fun e => ?_, fun e => ?_⟩
  · subst e; exact h.apart.2.2.2.2.2.2 f hf hk
  · exact own_ne_blk h.nam a (by rcases b with rfl | rfl | rfl | rfl <;> decide)
  · obtain ⟨es, c, a'⟩ := (show KF w (.map (some k)) D.fs from e ▸ h.kf1).blk
    exact hp_ne a a' (by simp) rfl
  · obtain ⟨es, c, a'⟩ := (show KF w (.map (some k)) D.fr from e ▸ h.kf2).blk
    exact hp_ne a a' (by simp) rfl

/-- From one disk to another. -/
structure Goes (d : Nat) (w : World) (t : Wt) (D : Dq) (w' : World) (t' : Wt) (D' : Dq) : Prop where
  dk : DkT w' d t' D'
  kp : Kept (Dft d t D) w w'
  ft : ∀ k, Dft d t' D' k → Dft d t D k ∨ w.heap.size ≤ k

theorem Goes.still {d : Nat} {w w' : World} {t : Wt} {D : Dq} (h : DkT w d t D) (hk : Below w.heap.size w w') : Goes d w t D w' t D :=
  ⟨h.below hk, (Kept.ofBelow hk).mono (fun _ _ e => e.elim), fun _ e => .inl e⟩

theorem Goes.trans {d : Nat} {w w' w'' : World} {t t' t'' : Wt} {D D' D'' : Dq} (h : Goes d w t D w' t' D') (h' : Goes d w' t' D' w'' t'' D'') : Goes d w t D w'' t'' D'' := by
  refine ⟨h'.dk, h.kp.trans h'.kp (fun i hi e => ?_), fun k e => ?_⟩
  · rcases h.ft i e with e | e
    · exact e
    · omega
  · rcases h'.ft k e with e | e
    · exact h.ft k e
    · exact .inr (Nat.le_trans h.kp.size e)

/-- Only the disk's own block is another. -/
theorem DkT.about {w w' : World} {d : Nat} {t : Wt} {D D' : Dq} (h : DkT w d t D) (hk : Kept (fun k => k = d) w w')
    (hd : DiskB w' d D'.room D'.limit (.map (some t.L)) D'.made (.map (some t.N)) (.map (some t.F)) t.vn D'.off D'.st t.k1 D'.rd t.k2)
    (e1 : D'.files = D.files) (e3 : D'.safeN = D.safeN) (e4 : D'.turns = D.turns) (e5 : D'.fs = D.fs) (e6 : D'.fr = D.fr) : Goes d w t D w' t D' := by
  obtain ⟨a1, a2, a3, a4, a5, a6, a7⟩ := h.apart
  refine ⟨⟨hd, h.hL.kept hk (fun e => a1 e.symm), h.hN.kept hk (fun e => a2 e.symm), h.hF.kept hk (fun e => a3 e.symm), by rw [e1]; exact h.pl, by unfold Dq.names; rw [e3, e4]; exact h.pn, by rw [e3]; exact h.pf, h.ln, h.lf, h.nf, ?_, ?_, ?_, ?_, ?_, h.kd⟩, hk.mono (fun _ _ e => .inl e), ?_⟩
  · rw [e1]; exact fun f hf => (h.fil f hf).kept hk (fun k e e' => by subst e'; exact a7 f hf e)
  · rw [e1]; exact h.dis
  · rw [e4]; exact ownsRow_kept h.nam hk (fun k e e' => by subst e'; exact a4 e)
  · rw [e5]; exact h.kf1.keptOf hk (fun b e e' => by subst e'; exact a5 e)
  · rw [e6]; exact h.kf2.keptOf hk (fun b e e' => by subst e'; exact a6 e)
  · rintro k (e | e | e | e | e | e | e | ⟨f, hf, e⟩)
    · exact .inl (.inl e)
    · exact .inl (.inr (.inl e))
    · exact .inl (.inr (.inr (.inl e)))
    · exact .inl (.inr (.inr (.inr (.inl e))))
    · exact .inl (.inr (.inr (.inr (.inr (.inl e)))))
    · exact .inl (.inr (.inr (.inr (.inr (.inr (.inl e))))))
    · exact .inl (.inr (.inr (.inr (.inr (.inr (.inr (.inl e)))))))
    · exact .inl (.inr (.inr (.inr (.inr (.inr (.inr (.inr ⟨f, by rw [← e1]; exact hf, e⟩)))))))

/-- A file put in another's place. -/
def setF (f : Fi) (l : List Fi) : List Fi := l.map fun g => if g.no = f.no then f else g

theorem setF_no (f : Fi) (l : List Fi) : (setF f l).map Fi.no = l.map Fi.no := by
  simp only [setF, List.map_map]
  refine List.map_congr_left fun g _ => ?_
  simp only [Function.comp]
  split
  · rename_i h; exact h.symm
  · rfl

theorem encL_setF (pt : Int → Nat) (f : Fi) (l : List Fi) : encL pt (setF f l) = encL pt l := by
  unfold encL setF
  rw [List.map_map]
  refine List.map_congr_left fun g _ => ?_
  simp only [Function.comp]
  split
  · rename_i h; rw [h]
  · rfl

theorem mem_setF {f g : Fi} {l : List Fi} (h : g ∈ setF f l) : (g = f ∧ ∃ x ∈ l, x.no = f.no) ∨ (g ∈ l ∧ g.no ≠ f.no) := by
  obtain ⟨x, hx, e⟩ := List.mem_map.1 h
  split at e
  · rename_i hq; exact .inl ⟨e.symm, x, hx, hq⟩
  · rename_i hq; rw [← e]; exact .inr ⟨hx, hq⟩

/-- Only one file is another. -/
theorem DkT.changeB {w w' : World} {d : Nat} {t : Wt} {D : Dq} (h : DkT w d t D) {f f' : Fi} (hf : f ∈ D.files) (hn : f'.no = f.no) (hk : Kept (t.ft f.no) w w') {ft' : Nat → Prop} (hf' : Fil w' ft' (t.pt f.no) f') (Bs : Nat) (hBs : ∀ k, Dft d t D k → k < Bs) (hft : ∀ k, ft' k → t.ft f.no k ∨ Bs ≤ k) :
    DkT w' d { t with ft := fun n => if n = f.no then ft' else t.ft n } { D with files := setF f' D.files } ∧ Kept (Dft d t D) w w' ∧ ∀ k, Dft d { t with ft := fun n => if n = f.no then ft' else t.ft n } { D with files := setF f' D.files } k → Dft d t D k ∨ Bs ≤ k := by
  have fa : ∀ k, t.ft f.no k → k ≠ d ∧ k ≠ t.L ∧ k ≠ t.N ∧ k ≠ t.F ∧ t.vn.ownBlock ≠ some k ∧ t.k1 ≠ .map (some k) ∧ t.k2 ≠ .map (some k) := fun k e => h.fapart hf e
  have hlt : ∀ g ∈ D.files, ∀ k, t.ft g.no k → k < Bs := fun g hg k e => hBs k (.inr (.inr (.inr (.inr (.inr (.inr (.inr ⟨g, hg, e⟩)))))))
  refine ⟨⟨hp_kept h.disk hk (fun e => (fa _ e).1 rfl), h.hL.kept hk (fun e => (fa _ e).2.1 rfl), h.hN.kept hk (fun e => (fa _ e).2.2.1 rfl), h.hF.kept hk (fun e => (fa _ e).2.2.2.1 rfl), ?_, h.pn, h.pf, h.ln, h.lf, h.nf, ?_, ?_, ownsRow_kept h.nam hk (fun k e e' => (fa _ e').2.2.2.2.1 e), h.kf1.keptOf hk (fun b e e' => (fa _ e').2.2.2.2.2.1 e), h.kf2.keptOf hk (fun b e e' => (fa _ e').2.2.2.2.2.2 e), h.kd⟩, ?_, ?_⟩
  · show t.kl.Perm (encL t.pt (setF f' D.files))
    rw [encL_setF]
    exact h.pl
  · intro g hg
    rcases mem_setF hg with ⟨rfl, _⟩ | ⟨hg, hne⟩
    · show Fil w' (if g.no = f.no then ft' else t.ft g.no) (t.pt g.no) g
      rw [if_pos hn, hn]
      exact hf'
    · have hne' : g.no ≠ f.no := by rw [← hn]; exact hne
      show Fil w' (if g.no = f.no then ft' else t.ft g.no) (t.pt g.no) g
      rw [if_neg hne']
      exact (h.fil g hg).kept hk (fun k e e' => h.dis g hg f hf hne' k e e')
  · intro g hg g' hg' hne k
    show (if g.no = f.no then ft' else t.ft g.no) k → ¬ (if g'.no = f.no then ft' else t.ft g'.no) k
    have key : ∀ x ∈ D.files, x.no ≠ f.no → ft' k → ¬ t.ft x.no k := fun x hx hxn e e' => by
      rcases hft k e with e | e
      · exact h.dis x hx f hf hxn k e' e
      · have := hlt x hx k e'; omega
    rcases mem_setF hg with ⟨e1, _⟩ | ⟨hm, hg2⟩ <;> rcases mem_setF hg' with ⟨e2, _⟩ | ⟨hm', hg2'⟩
    · rw [e1, e2] at hne
      exact absurd rfl hne
    · rw [hn] at hg2'
      rw [if_pos (show g.no = f.no by rw [e1]; exact hn), if_neg hg2']
      exact key g' hm' hg2'
    · rw [hn] at hg2
      rw [if_neg hg2, if_pos (show g'.no = f.no by rw [e2]; exact hn)]
      exact fun e e' => key g hm hg2 e' e
    · rw [hn] at hg2 hg2'
      rw [if_neg hg2, if_neg hg2']
      exact h.dis g hm g' hm' hne k
  · exact hk.mono (fun k _ e => .inr (.inr (.inr (.inr (.inr (.inr (.inr ⟨f, hf, e⟩)))))))
  · rintro k (e | e | e | e | e | e | e | ⟨g, hg, e⟩)
    · exact .inl (.inl e)
    · exact .inl (.inr (.inl e))
    · exact .inl (.inr (.inr (.inl e)))
    · exact .inl (.inr (.inr (.inr (.inl e))))
    · exact .inl (.inr (.inr (.inr (.inr (.inl e)))))
    · exact .inl (.inr (.inr (.inr (.inr (.inr (.inl e))))))
    · exact .inl (.inr (.inr (.inr (.inr (.inr (.inr (.inl e)))))))
    · replace e : (if g.no = f.no then ft' else t.ft g.no) k := e
      rcases mem_setF hg with ⟨rfl, _⟩ | ⟨hg, hg2⟩
      · rw [if_pos hn] at e
        rcases hft k e with e | e
        · exact .inl (.inr (.inr (.inr (.inr (.inr (.inr (.inr ⟨f, hf, e⟩)))))))
        · exact .inr e
      · rw [hn] at hg2
        rw [if_neg hg2] at e
        exact .inl (.inr (.inr (.inr (.inr (.inr (.inr (.inr ⟨g, hg, e⟩)))))))

theorem DkT.change {w w' : World} {d : Nat} {t : Wt} {D : Dq} (h : DkT w d t D) {f f' : Fi} (hf : f ∈ D.files) (hn : f'.no = f.no) (hk : Kept (t.ft f.no) w w') {ft' : Nat → Prop} (hf' : Fil w' ft' (t.pt f.no) f') (hft : ∀ k, ft' k → t.ft f.no k ∨ w.heap.size ≤ k) :
    Goes d w t D w' { t with ft := fun n => if n = f.no then ft' else t.ft n } { D with files := setF f' D.files } := by
  obtain ⟨a, b, c⟩ := h.changeB hf hn hk hf' w.heap.size (fun k e => h.lt k e) hft
  exact ⟨a, b, c⟩

end Go.Proofs.YtlmompdfombgeaaGreat

namespace Go.Proofs.YtlmompdfombgeaaGreat
open Go.RowKit Go.MapKept

section
variable {κ β γ : Type} [DecidableEq κ]

/-- The value of a key. -/
def lo (k : κ) : List (κ × β) → Option β
  | [] => none
  | x :: l => if x.1 = k then some x.2 else lo k l

theorem lo_lookup (k : κ) : ∀ l : List (κ × β), l.lookup k = lo k l
  | [] => rfl
  | x :: l => by
    rw [List.lookup_cons, lo, lo_lookup k l]
    by_cases h : x.1 = k
    · rw [if_pos h, show (k == x.1) = true by simpa using h.symm]
    · rw [if_neg h, show (k == x.1) = false by simpa using fun e => h e.symm]

theorem lo_mem {k : κ} {v : β} : ∀ {l : List (κ × β)}, lo k l = some v → (k, v) ∈ l
  | [], h => by cases h
  | x :: l, h => by
    rw [lo] at h
    split at h
    · rename_i e
      injection h with h
      subst e h
      exact List.mem_cons_self ..
    · exact List.mem_cons_of_mem _ (lo_mem h)

theorem lo_of_mem {x : κ × β} : ∀ {l : List (κ × β)}, (l.map Prod.fst).Nodup → x ∈ l → lo x.1 l = some x.2
  | [], _, h => by cases h
  | y :: l, hn, h => by
    rw [List.map_cons, List.nodup_cons] at hn
    rw [lo]
    rcases List.mem_cons.1 h with rfl | h
    · rw [if_pos rfl]
    · rw [if_neg (fun e => hn.1 (by rw [e]; exact List.mem_map.2 ⟨x, h, rfl⟩))]
      exact lo_of_mem hn.2 h

theorem lo_none {k : κ} : ∀ {l : List (κ × β)}, lo k l = none ↔ ∀ x ∈ l, x.1 ≠ k
  | [] => by simp [lo]
  | y :: l => by
    rw [lo]
    by_cases h : y.1 = k
    · simp [h]
    · simp [h, lo_none (l := l)]

theorem lo_perm {k : κ} {l l' : List (κ × β)} (p : l.Perm l') (nd : (l.map Prod.fst).Nodup) : lo k l = lo k l' := by
  have nd' : (l'.map Prod.fst).Nodup := (p.map Prod.fst).nodup_iff.1 nd
  cases h : lo k l with
  | none =>
    cases h' : lo k l' with
    | none => rfl
    | some v => exact absurd rfl (lo_none.1 h (k, v) (p.mem_iff.2 (lo_mem h')))
  | some v => exact (lo_of_mem nd' (p.mem_iff.1 (lo_mem h))).symm

theorem lo_map (k : κ) (f : β → γ) : ∀ l : List (κ × β), lo k (l.map fun x => (x.1, f x.2)) = (lo k l).map f
  | [] => rfl
  | x :: l => by
    rw [List.map_cons, lo, lo, lo_map k f l]
    split <;> rfl

end

theorem MG.findn {κ : Type} [DecidableEq κ] {K : Ky κ} {w : World} {b c : Nat} {kv : List (κ × Value)} {es : Array MapEntry} (h : MG K w b kv es c) (k : κ) : (lo k kv = none → Instr.findNow K.d (K.enc k) es.toList 0 = some none) ∧ ∀ v, lo k kv = some v → ∃ j, Instr.findNow K.d (K.enc k) es.toList 0 = some (some (j, v)) := by
  rcases find_kv K k es.toList kv 0 h.kvs with ⟨h1, h2⟩ | ⟨v, j, h1, _, h3⟩
  · rw [lo_lookup] at h1
    exact ⟨fun _ => h2, fun v hv => (by rw [h1] at hv; cases hv)⟩
  · rw [lo_lookup] at h1
    refine ⟨fun h => (by rw [h] at h1; cases h1), fun v' hv => ?_⟩
    rw [h1] at hv
    injection hv with hv
    subst hv
    exact ⟨_, h3⟩

/-- The file of a number. -/
def ff (n : Int) : List Fi → Option Fi
  | [] => none
  | f :: l => if f.no = n then some f else ff n l

theorem ff_mem {n : Int} {f : Fi} : ∀ {l : List Fi}, ff n l = some f → f ∈ l ∧ f.no = n
  | [], h => by cases h
  | g :: l, h => by
    rw [ff] at h
    split at h
    · injection h with h; subst h; exact ⟨List.mem_cons_self .., by assumption⟩
    · exact ⟨List.mem_cons_of_mem _ (ff_mem h).1, (ff_mem h).2⟩

theorem ff_some {n : Int} : ∀ {l : List Fi}, n ∈ l.map Fi.no → ∃ f, ff n l = some f
  | [], h => by cases h
  | g :: l, h => by
    rw [ff]
    split
    · exact ⟨g, rfl⟩
    · rename_i hne
      rw [List.map_cons, List.mem_cons] at h
      rcases h with h | h
      · exact absurd h.symm hne
      · exact ff_some h

theorem lo_encL (pt : Int → Nat) (n : Int) : ∀ l : List Fi, lo n (encL pt l) = (ff n l).map fun f => Value.pointer (some ⟨pt f.no, 0, none⟩)
  | [] => rfl
  | f :: l => by
    have ih := lo_encL pt n l
    unfold encL at ih ⊢
    rw [List.map_cons, lo, ff, ih]
    dsimp only
    split <;> rfl

theorem lo_encN (nm : ByteArray) (l : List (ByteArray × Int)) : lo nm (encN l) = (lo nm l).map fun n => Value.int .i64 n := lo_map nm _ l

/-- Names that fit files. -/
structure NOK (files : List Fi) (nl : List (ByteArray × Int)) : Prop where
  k : (nl.map Prod.fst).Nodup
  n : (nl.map Prod.snd).Nodup
  l : ∀ x ∈ nl, x.2 ∈ files.map Fi.no
  ok : ∀ x ∈ nl, nmOK x.1 = true

/-- Changes that fit: no cut is behind the end. -/
def CutsOK (safe : List Int) (cs : List Chg) : Prop := ∀ (k c : Nat), cs[k]? = some (.inr c) → c ≤ (rowC safe (cs.take k)).1.length

/-- A disk that fits together; n bounds what has been done to it. -/
structure WD (n : Nat) (D : Dq) : Prop where
  room : 0 ≤ D.room ∧ D.room ≤ 4194304
  lim : 0 ≤ D.limit ∧ D.limit ≤ 512
  made : 0 ≤ D.made ∧ D.made ≤ n
  asc : (D.files.map Fi.no).Pairwise (· < ·)
  rng : ∀ f ∈ D.files, 1 ≤ f.no ∧ f.no ≤ D.made
  cnt : (D.files.length : Int) ≤ D.limit
  hld : (((D.files.map Fi.peak).sum : Nat) : Int) ≤ D.room
  saf : ∀ k, NOK D.files (D.namesAt k)
  tur : D.turns.length ≤ n
  chg : ∀ f ∈ D.files, f.cs.length ≤ n ∧ CutsOK f.safe f.cs
  st : 0 ≤ D.st ∧ D.st ≤ n
  rd : 0 ≤ D.rd ∧ D.rd ≤ n

theorem names_at (D : Dq) : D.names = D.namesAt D.turns.length := by simp [Dq.names, Dq.namesAt]

theorem WD.nam {n : Nat} {D : Dq} (h : WD n D) : NOK D.files D.names := by rw [names_at]; exact h.saf _

theorem WD.nd {n : Nat} {D : Dq} (h : WD n D) : (D.files.map Fi.no).Nodup := h.asc.imp (fun h e => by omega)

theorem peak_le_sum {f : Fi} : ∀ {l : List Fi}, f ∈ l → f.peak ≤ (l.map Fi.peak).sum
  | [], h => by cases h
  | g :: l, h => by
    rw [List.map_cons, List.sum_cons]
    rcases List.mem_cons.1 h with rfl | h
    · omega
    · have := peak_le_sum h; omega

theorem WD.peak {n : Nat} {D : Dq} (h : WD n D) {f : Fi} (hf : f ∈ D.files) : f.peak ≤ 4194304 := by
  have := peak_le_sum hf
  have := h.hld
  have := h.room
  omega

theorem WD.mono {n m : Nat} {D : Dq} (h : WD n D) (hm : n ≤ m) : WD m D :=
  ⟨h.room, h.lim, ⟨h.made.1, by have := h.made.2; omega⟩, h.asc, h.rng, h.cnt, h.hld, h.saf, by have := h.tur; omega, fun f hf => ⟨by have := (h.chg f hf).1; omega, (h.chg f hf).2⟩, ⟨h.st.1, by have := h.st.2; omega⟩, ⟨h.rd.1, by have := h.rd.2; omega⟩⟩

/-- The file of a name. -/
def Dq.look (D : Dq) (nm : ByteArray) : Option Fi := (lo nm D.names).bind fun n => ff n D.files

theorem look_mem {D : Dq} {nm : ByteArray} {f : Fi} (h : D.look nm = some f) : f ∈ D.files ∧ lo nm D.names = some f.no := by
  unfold Dq.look at h
  cases e : lo nm D.names with
  | none => rw [e] at h; cases h
  | some n =>
    rw [e] at h
    have := ff_mem (show ff n D.files = some f from h)
    exact ⟨this.1, by rw [this.2]⟩

/-- The errors ahead of the count, one name. -/
def pre1 (D : Dq) (nm : ByteArray) (ab : Bool) (sz : Int) : Int :=
  if D.off then 11 else if nmOK nm = false then 5 else
  match D.look nm with
  | some f => if ab then 7 else if sz < 0 ∨ (f.row.1.length : Int) < sz then 1 else 0
  | none => if ab then 0 else 6

/-- Of two names. -/
def pre2 (D : Dq) (nm mn : ByteArray) : Int :=
  if D.off then 11 else if (nmOK nm && nmOK mn) = false then 5 else
  match D.look nm with
  | some _ => 0
  | none => 6

/-- Of none. -/
def pre0 (D : Dq) : Int := if D.off then 11 else 0

/-- What find answers beside an error. -/
def fvOf (t : Wt) (D : Dq) (nm : ByteArray) (e : Int) : Value :=
  if e = 0 then (match D.look nm with | some f => .pointer (some ⟨t.pt f.no, 0, none⟩) | none => .pointer none) else .pointer none

section
variable {w : World} {d : Nat} {t : Wt} {D : Dq} {n : Nat}

theorem DkT.nkeys (h : DkT w d t D) (nm : ByteArray) : lo nm t.kn = (lo nm D.names).map fun n => Value.int .i64 n := by
  rw [lo_perm h.pn h.hN.keys, lo_encN]

theorem DkT.lkeys (h : DkT w d t D) (m : Int) : lo m t.kl = (ff m D.files).map fun f => Value.pointer (some ⟨t.pt f.no, 0, none⟩) := by
  rw [lo_perm h.pl h.hL.keys, lo_encL]

/-- What a look-up in the names and the living files finds. -/
theorem DkT.found (h : DkT w d t D) (hW : WD n D) (nm : ByteArray) : (D.look nm = none ∧ Instr.findNow .string (.string nm) t.eN.toList 0 = some none) ∨ ∃ f i i', D.look nm = some f ∧ f ∈ D.files ∧ Instr.findNow .string (.string nm) t.eN.toList 0 = some (some (i, .int .i64 f.no)) ∧ Instr.findNow (.int .i64) (.int .i64 f.no) t.eL.toList 0 = some (some (i', .pointer (some ⟨t.pt f.no, 0, none⟩))) := by
  have hk := h.nkeys nm
  cases e : lo nm D.names with
  | none =>
    rw [e] at hk
    exact .inl ⟨by simp [Dq.look, e], (h.hN.findn nm).1 hk⟩
  | some m =>
    rw [e] at hk
    obtain ⟨i, hi⟩ := (h.hN.findn nm).2 _ hk
    obtain ⟨f, hf⟩ := ff_some (hW.nam.l _ (lo_mem e))
    have hf2 := ff_mem hf
    have hl := h.lkeys m
    replace hf : ff m D.files = some f := hf
    rw [hf] at hl
    obtain ⟨i', hi'⟩ := (h.hL.findn m).2 _ hl
    have hno : f.no = m := hf2.2
    refine .inr ⟨f, i, i', by simp [Dq.look, e, hf], hf2.1, ?_, ?_⟩
    · rw [hno]; exact hi
    · have hi2 : Instr.findNow (.int .i64) (.int .i64 m) t.eL.toList 0 = some (some (i', .pointer (some ⟨t.pt f.no, 0, none⟩))) := hi'
      rw [hno] at hi2 ⊢
      exact hi2

/-- The row's place in a file's block. -/
theorem Fil.cell2 {ft : Nat → Prop} {p : Nat} {f : Fi} (h : Fil w ft p f) : ∃ ao cap, w.cell? ⟨p, 2, none⟩ = some (.slice ao f.row.1.length cap) := by
  obtain ⟨pend, vs, vp, vd, vf, hf, hp, ht⟩ := h
  obtain ⟨ao, cap, rfl⟩ := own_shape hf.od
  exact ⟨ao, cap, (cells5 hf.blk).2.2.1⟩

theorem find1_dk (h : DkT w d t D) (hW : WD n D) (g : Nat) (nm : ByteArray) (ab : Bool) (sz : Int) (hg : w.cell? ⟨g, 0, none⟩ = some (.string nm)) (hs : nm.size ≤ maxLen) (hsz : ab = true → sz = 0) :
    Calls Tryz.prog 69 #[.pointer (some ⟨d, 0, none⟩), .agg #[.slice (some ⟨g, 0, none⟩) 1 1, .bool ab, .int .i64 sz]] w fun x w' => x = .returned (.tuple #[fvOf t D nm (pre1 D nm ab sz), .int .i64 (pre1 D nm ab sz)]) ∧ Below w.heap.size w w' := by
  obtain ⟨c0, c1, c2, c3, c4, c5, c6, c7, c8, c9, c10, c11⟩ := h.disk.cells
  cases ho : D.off with
  | true =>
    rw [ho] at c7
    have e : pre1 D nm ab sz = 11 := by simp [pre1, ho]
    rw [e]
    exact find_off d _ _ _ w c7 rfl rfl rfl
  | false =>
    rw [ho] at c7
    cases hok : nmOK nm with
    | false =>
      have e : pre1 D nm ab sz = 5 := by simp [pre1, ho, hok]
      rw [e]
      exact find_bad1 d g nm w c7 hg hs ab sz hok
    | true =>
      rcases h.found hW nm with ⟨h1, h2⟩ | ⟨f, i, i', h1, hf, h2, h3⟩
      · cases ab with
        | true =>
          have e : pre1 D nm true sz = 0 := by simp [pre1, ho, hok, h1]
          obtain rfl := hsz rfl
          rw [e, show fvOf t D nm 0 = .pointer none by simp [fvOf, h1]]
          exact find_absent d g t.N nm t.eN t.cN w c7 c4 h.hN.blk hg hok hs h2
        | false =>
          have e : pre1 D nm false sz = 6 := by simp [pre1, ho, hok, h1]
          rw [e]
          exact find_missing1 d g nm w c7 hg hs t.N t.eN t.cN sz c4 h.hN.blk hok h2
      · obtain ⟨ao, cap, hp⟩ := (h.fil f hf).cell2
        cases ab with
        | true =>
          have e : pre1 D nm true sz = 7 := by simp [pre1, ho, hok, h1]
          obtain rfl := hsz rfl
          rw [e]
          exact find_exists d g t.N nm t.eN t.cN i f.no w c7 c4 h.hN.blk hg hok hs h2
        | false =>
          by_cases hz : sz < 0 ∨ (f.row.1.length : Int) < sz
          · have e : pre1 D nm false sz = 1 := by simp [pre1, ho, hok, h1, hz]
            rw [e]
            exact find_size1 d g nm w c7 hg hs t.N t.L _ t.eN t.eL t.cN t.cL i i' f.no sz ao f.row.1.length cap c4 c2 h.hN.blk h.hL.blk hok h2 h3 hp hz
          · have e : pre1 D nm false sz = 0 := by simp [pre1, ho, hok, h1, hz]
            rw [e, show fvOf t D nm 0 = .pointer (some ⟨t.pt f.no, 0, none⟩) by simp [fvOf, h1]]
            exact find_there d g t.N t.L _ nm t.eN t.eL t.cN t.cL i i' f.no sz ao f.row.1.length cap w c7 c4 c2 h.hN.blk h.hL.blk hg hok hs h2 h3 hp (by omega) (by omega)

theorem find2_dk (h : DkT w d t D) (hW : WD n D) (g : Nat) (nm mn : ByteArray) (hg : w.cell? ⟨g, 0, none⟩ = some (.string nm)) (hg1 : w.cell? ⟨g, 1, none⟩ = some (.string mn)) (hs : nm.size ≤ maxLen) (hs1 : mn.size ≤ maxLen) :
    Calls Tryz.prog 69 #[.pointer (some ⟨d, 0, none⟩), .agg #[.slice (some ⟨g, 0, none⟩) 2 2, .bool false, .int .i64 0]] w fun x w' => x = .returned (.tuple #[fvOf t D nm (pre2 D nm mn), .int .i64 (pre2 D nm mn)]) ∧ Below w.heap.size w w' := by
  obtain ⟨c0, c1, c2, c3, c4, c5, c6, c7, c8, c9, c10, c11⟩ := h.disk.cells
  cases ho : D.off with
  | true =>
    rw [ho] at c7
    have e : pre2 D nm mn = 11 := by simp [pre2, ho]
    rw [e]
    exact find_off d _ _ _ w c7 rfl rfl rfl
  | false =>
    rw [ho] at c7
    cases hok : (nmOK nm && nmOK mn) with
    | false =>
      have e : pre2 D nm mn = 5 := by unfold pre2; rw [ho, hok]; rfl
      rw [e]
      exact find_bad2 d g nm mn w c7 hg hs hg1 hs1 hok
    | true =>
      have hok2 : nmOK nm = true ∧ nmOK mn = true := by simpa using hok
      rcases h.found hW nm with ⟨h1, h2⟩ | ⟨f, i, i', h1, hf, h2, h3⟩
      · have e : pre2 D nm mn = 6 := by unfold pre2; rw [ho, hok, h1]; rfl
        rw [e]
        exact find_missing2 d g nm mn w c7 hg hs t.N t.eN t.cN hg1 hs1 c4 h.hN.blk hok2.1 hok2.2 h2
      · obtain ⟨ao, cap, hp⟩ := (h.fil f hf).cell2
        have e : pre2 D nm mn = 0 := by unfold pre2; rw [ho, hok, h1]; rfl
        rw [e, show fvOf t D nm 0 = .pointer (some ⟨t.pt f.no, 0, none⟩) by simp [fvOf, h1]]
        exact find_there2 d g nm mn w c7 hg hs t.N t.L _ t.eN t.eL t.cN t.cL i i' f.no ao f.row.1.length cap hg1 hs1 c4 c2 h.hN.blk h.hL.blk hok2.1 hok2.2 h2 h3 hp

theorem find0_dk (h : DkT w d t D) :
    Calls Tryz.prog 69 #[.pointer (some ⟨d, 0, none⟩), .agg #[.slice none 0 0, .bool false, .int .i64 0]] w fun x w' => x = .returned (.tuple #[.pointer none, .int .i64 (pre0 D)]) ∧ Below w.heap.size w w' := by
  obtain ⟨c0, c1, c2, c3, c4, c5, c6, c7, c8, c9, c10, c11⟩ := h.disk.cells
  cases ho : D.off with
  | true =>
    rw [ho] at c7
    rw [show pre0 D = 11 by simp [pre0, ho]]
    exact find_off d _ _ _ w c7 rfl rfl rfl
  | false =>
    rw [ho] at c7
    rw [show pre0 D = 0 by simp [pre0, ho]]
    exact find_plain d w c7

/-- A stroke counted. -/
def cntS (D : Dq) : Dq := { D with st := D.st + 1, off := decide (fo D.fs (D.st + 1) = 1) }
/-- A reading counted. -/
def cntR (D : Dq) : Dq := { D with rd := D.rd + 1, off := decide (fo D.fr (D.rd + 1) = 1) }

/-- A stroke. -/
def strokeP (D : Dq) (e : Int) (k : Dq → Int × Dq) : Int × Dq :=
  if e ≠ 0 then (e, D) else if fe (fo D.fs (D.st + 1)) ≠ 0 then (fe (fo D.fs (D.st + 1)), cntS D) else k (cntS D)

theorem count_dk (h : DkT w d t D) (hW : WD n D) (hn : n ≤ 1000000) (ho : D.off = false) :
    Calls Tryz.prog 70 #[.pointer (some ⟨d, 0, none⟩), .pointer (some ⟨d, 8, none⟩)] w fun x w' => x = .returned (.int .i64 (fe (fo D.fs (D.st + 1)))) ∧ DkT w' d t (cntS D) ∧ Kept (fun k => k = d) w w' := by
  have hd := h.disk
  rw [ho] at hd
  refine (count_st d D.fs w _ _ _ _ _ _ _ _ _ _ _ hd h.kf1 hW.st.1 (by have := hW.st.2; omega)).mono ?_
  rintro e w1 ⟨rfl, hd1, hk⟩
  exact ⟨rfl, (h.about hk (D' := cntS D) hd1 rfl rfl rfl rfl rfl).dk, hk⟩

theorem countR_dk (h : DkT w d t D) (hW : WD n D) (hn : n ≤ 1000000) (ho : D.off = false) :
    Calls Tryz.prog 70 #[.pointer (some ⟨d, 0, none⟩), .pointer (some ⟨d, 10, none⟩)] w fun x w' => x = .returned (.int .i64 (fe (fo D.fr (D.rd + 1)))) ∧ DkT w' d t (cntR D) ∧ Kept (fun k => k = d) w w' := by
  have hd := h.disk
  rw [ho] at hd
  refine (count_rd d D.fr w _ _ _ _ _ _ _ _ _ _ _ hd h.kf2 hW.rd.1 (by have := hW.rd.2; omega)).mono ?_
  rintro e w1 ⟨rfl, hd1, hk⟩
  exact ⟨rfl, (h.about hk (D' := cntR D) hd1 rfl rfl rfl rfl rfl).dk, hk⟩

theorem DkT.goes (_h : DkT w d t D) {w' : World} {D' : Dq} (h' : DkT w' d t D') (hk : Kept (fun k => k = d) w w') (hf : D'.files = D.files) : Goes d w t D w' t D' :=
  ⟨h', hk.mono (fun _ _ e => .inl e), fun k e => .inl (by unfold Dft at e ⊢; rw [hf] at e; exact e)⟩

theorem stroke_dk (h : DkT w d t D) (hW : WD n D) (hn : n ≤ 1000000) (a b c fv : Value) (e : Int) (ha : a.cells = #[a]) (hb : b.cells = #[b]) (hc : c.cells = #[c])
    (hfind : ∀ w1, Below w.heap.size w w1 → Calls Tryz.prog 69 #[.pointer (some ⟨d, 0, none⟩), .agg #[a, b, c]] w1 fun x w2 => x = .returned (.tuple #[fv, .int .i64 e]) ∧ Below w1.heap.size w1 w2)
    (hoff : e = 0 → D.off = false) (fn : Nat) (cap : Array Value) (he : ∀ args w, (callFunc fn args).run Tryz.prog w = .ok (.enter fn args) w) (k : Dq → Int × Dq)
    (hdo : e = 0 → fe (fo D.fs (D.st + 1)) = 0 → ∀ w2, DkT w2 d t (cntS D) → Kept (fun k => k = d) w w2 → Calls Tryz.prog fn (#[fv] ++ cap) w2 fun x w3 => x = .returned (.int .i64 (k (cntS D)).1) ∧ ∃ t', Goes d w2 t (cntS D) w3 t' (k (cntS D)).2) :
    Calls Tryz.prog 76 #[.pointer (some ⟨d, 0, none⟩), .agg #[a, b, c], .func (.func fn) #[] cap] w fun x w3 => x = .returned (.int .i64 (strokeP D e k).1) ∧ ∃ t', Goes d w t D w3 t' (strokeP D e k).2 := by
  have hba : Below w.heap.size w (w.alloc (.cells #[a, b, c] 104)) := (Below.refl _ _).alloc (Nat.le_refl _) _
  by_cases h0 : e = 0
  · subst h0
    by_cases h1 : fe (fo D.fs (D.st + 1)) = 0
    · have es : strokeP D 0 k = k (cntS D) := by simp [strokeP, h1]
      rw [es]
      refine stroke_ok d fn a b c fv cap (k (cntS D)).1 w (fun w1 => Below w.heap.size w w1) (fun w2 => DkT w2 d t (cntS D) ∧ Kept (fun k => k = d) w w2) _ he ha hb hc ?_ ?_ ?_
      · refine (hfind _ hba).mono ?_
        rintro x w1 ⟨rfl, hb1⟩
        exact ⟨rfl, hba.trans (hb1.mono (by simp))⟩
      · intro w1 hb1
        refine (count_dk (h.below hb1) hW hn (hoff rfl)).mono ?_
        rintro x w2 ⟨rfl, hd2, hk2⟩
        exact ⟨by rw [h1], hd2, (Kept.ofBelow hb1).mono (fun _ _ e => e.elim) |>.trans hk2 (fun _ _ e => e)⟩
      · rintro w2 ⟨hd2, hk2⟩
        refine (hdo rfl h1 w2 hd2 hk2).mono ?_
        rintro x w3 ⟨rfl, t', hg⟩
        exact ⟨rfl, t', (h.goes hd2 hk2 rfl).trans hg⟩
    · have es : strokeP D 0 k = (fe (fo D.fs (D.st + 1)), cntS D) := by simp [strokeP, h1]
      rw [es]
      refine stroke_bad d fn a b c fv cap _ w (fun w1 => Below w.heap.size w w1) (fun w2 => ∃ t', Goes d w t D w2 t' (cntS D)) (by simpa using h1) ha hb hc ?_ ?_
      · refine (hfind _ hba).mono ?_
        rintro x w1 ⟨rfl, hb1⟩
        exact ⟨rfl, hba.trans (hb1.mono (by simp))⟩
      · intro w1 hb1
        refine (count_dk (h.below hb1) hW hn (hoff rfl)).mono ?_
        rintro x w2 ⟨rfl, hd2, hk2⟩
        exact ⟨rfl, t, h.goes hd2 ((Kept.ofBelow hb1).mono (fun _ _ e => e.elim) |>.trans hk2 (fun _ _ e => e)) rfl⟩
  · have es : strokeP D e k = (e, D) := by simp [strokeP, h0]
    rw [es]
    refine stroke_no d fn a b c fv cap e w (fun w1 => ∃ t', Goes d w t D w1 t' D) (by simpa using h0) ha hb hc ?_
    refine (hfind _ hba).mono ?_
    rintro x w1 ⟨rfl, hb1⟩
    exact ⟨rfl, t, Goes.still h (hba.trans (hb1.mono (by simp)))⟩

theorem pre1_off {nm : ByteArray} {ab : Bool} {sz : Int} (h : pre1 D nm ab sz = 0) : D.off = false := by
  cases ho : D.off with
  | false => rfl
  | true => simp [pre1, ho] at h

theorem pre2_off {nm mn : ByteArray} (h : pre2 D nm mn = 0) : D.off = false := by
  cases ho : D.off with
  | false => rfl
  | true => simp [pre2, ho] at h

theorem pre0_off (h : pre0 D = 0) : D.off = false := by
  cases ho : D.off with
  | false => rfl
  | true => simp [pre0, ho] at h

/-- A name that is there, or is none. -/
theorem pre1_look {nm : ByteArray} {ab : Bool} {sz : Int} (h : pre1 D nm ab sz = 0) : nmOK nm = true ∧ (ab = true → D.look nm = none) ∧ (ab = false → ∃ f, D.look nm = some f ∧ 0 ≤ sz ∧ sz ≤ f.row.1.length) := by
  have ho := pre1_off h
  unfold pre1 at h
  rw [ho] at h
  cases hok : nmOK nm with
  | false => simp [hok] at h
  | true =>
    refine ⟨rfl, fun e => ?_, fun e => ?_⟩
    · subst e
      cases hl : D.look nm with
      | none => rfl
      | some f => simp [hok, hl] at h
    · subst e
      cases hl : D.look nm with
      | none => simp [hok, hl] at h
      | some f =>
        refine ⟨f, rfl, ?_⟩
        by_cases hz : sz < 0 ∨ (f.row.1.length : Int) < sz
        · simp [hok, hl, hz] at h
        · omega

theorem pre2_look {nm mn : ByteArray} (h : pre2 D nm mn = 0) : nmOK nm = true ∧ nmOK mn = true ∧ ∃ f, D.look nm = some f := by
  have ho := pre2_off h
  unfold pre2 at h
  rw [ho] at h
  cases hok : (nmOK nm && nmOK mn) with
  | false => rw [hok] at h; simp at h
  | true =>
    have hok2 : nmOK nm = true ∧ nmOK mn = true := by simpa using hok
    refine ⟨hok2.1, hok2.2, ?_⟩
    cases hl : D.look nm with
    | none => rw [hok, hl] at h; simp at h
    | some f => exact ⟨f, rfl⟩

end
end Go.Proofs.YtlmompdfombgeaaGreat
