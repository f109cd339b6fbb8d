import Derived.Test.YtlmompdfombgeabGreatK13
namespace Go.Proofs.YtlmompdfombgeabGreat
open Go.RowKit Go.MapKept

section
variable {κ β γ : Type} [DecidableEq κ]

/-- The value of a key. -/
def lo (k : κ) : List (κ × β) → Option β
  | [] => none
  | x :: l => if x.1 = k then some x.2 else lo k l

theorem lo_lookup (k : κ) : ∀ l : List (κ × β), l.lookup k = lo k l
  | [] => rfl
  | x :: l => by
    rw [List.lookup_cons, lo, lo_lookup k l]
    by_cases h : x.1 = k
    · rw [if_pos h, show (k == x.1) = true by simpa using h.symm]
    · rw [if_neg h, show (k == x.1) = false by simpa using fun e => h e.symm]

theorem lo_mem {k : κ} {v : β} : ∀ {l : List (κ × β)}, lo k l = some v → (k, v) ∈ l
  | [], h => by cases h
  | x :: l, h => by
    rw [lo] at h
    split at h
    · rename_i e
      injection h with h
      subst e h
      exact List.mem_cons_self ..
    · exact List.mem_cons_of_mem _ (lo_mem h)

theorem lo_of_mem {x : κ × β} : ∀ {l : List (κ × β)}, (l.map Prod.fst).Nodup → x ∈ l → lo x.1 l = some x.2
  | [], _, h => by cases h
  | y :: l, hn, h => by
    rw [List.map_cons, List.nodup_cons] at hn
    rw [lo]
    rcases List.mem_cons.1 h with rfl | h
    · rw [if_pos rfl]
    · rw [if_neg (fun e => hn.1 (by rw [e]; exact List.mem_map.2 ⟨x, h, rfl⟩))]
      exact lo_of_mem hn.2 h

theorem lo_none {k : κ} : ∀ {l : List (κ × β)}, lo k l = none ↔ ∀ x ∈ l, x.1 ≠ k
  | [] => by simp [lo]
  | y :: l => by
    rw [lo]
    by_cases h : y.1 = k
    · simp [h]
    · simp [h, lo_none (l := l)]

theorem lo_perm {k : κ} {l l' : List (κ × β)} (p : l.Perm l') (nd : (l.map Prod.fst).Nodup) : lo k l = lo k l' := by
  have nd' : (l'.map Prod.fst).Nodup := (p.map Prod.fst).nodup_iff.1 nd
  cases h : lo k l with
  | none =>
    cases h' : lo k l' with
    | none => rfl
    | some v => exact absurd rfl (lo_none.1 h (k, v) (p.mem_iff.2 (lo_mem h')))
  | some v => exact (lo_of_mem nd' (p.mem_iff.1 (lo_mem h))).symm

theorem lo_map (k : κ) (f : β → γ) : ∀ l : List (κ × β), lo k (l.map fun x => (x.1, f x.2)) = (lo k l).map f
  | [] => rfl
  | x :: l => by
    rw [List.map_cons, lo, lo, lo_map k f l]
    split <;> rfl

end

theorem MG.findn {κ : Type} [DecidableEq κ] {K : Ky κ} {w : World} {b c : Nat} {kv : List (κ × Value)} {es : Array MapEntry} (h : MG K w b kv es c) (k : κ) : (lo k kv = none → Instr.findNow K.d (K.enc k) es.toList 0 = some none) ∧ ∀ v, lo k kv = some v → ∃ j, Instr.findNow K.d (K.enc k) es.toList 0 = some (some (j, v)) := by
  rcases find_kv K k es.toList kv 0 h.kvs with ⟨h1, h2⟩ | ⟨v, j, h1, _, h3⟩
  · rw [lo_lookup] at h1
    exact ⟨fun _ => h2, fun v hv => (by rw [h1] at hv; cases hv)⟩
  · rw [lo_lookup] at h1
    refine ⟨fun h => (by rw [h] at h1; cases h1), fun v' hv => ?_⟩
    rw [h1] at hv
    injection hv with hv
    subst hv
    exact ⟨_, h3⟩

/-- The file of a number. -/
def ff (n : Int) : List Fi → Option Fi
  | [] => none
  | f :: l => if f.no = n then some f else ff n l

theorem ff_mem {n : Int} {f : Fi} : ∀ {l : List Fi}, ff n l = some f → f ∈ l ∧ f.no = n
  | [], h => by cases h
  | g :: l, h => by
    rw [ff] at h
    split at h
    · injection h with h; subst h; exact ⟨List.mem_cons_self .., by assumption⟩
    · exact ⟨List.mem_cons_of_mem _ (ff_mem h).1, (ff_mem h).2⟩

theorem ff_some {n : Int} : ∀ {l : List Fi}, n ∈ l.map Fi.no → ∃ f, ff n l = some f
  | [], h => by cases h
  | g :: l, h => by
    rw [ff]
    split
    · exact ⟨g, rfl⟩
    · rename_i hne
      rw [List.map_cons, List.mem_cons] at h
      rcases h with h | h
      · exact absurd h.symm hne
      · exact ff_some h

theorem lo_encL (pt : Int → Nat) (n : Int) : ∀ l : List Fi, lo n (encL pt l) = (ff n l).map fun f => Value.pointer (some ⟨pt f.no, 0, none⟩)
  | [] => rfl
  | f :: l => by
    have ih := lo_encL pt n l
    unfold encL at ih ⊢
    rw [List.map_cons, lo, ff, ih]
    dsimp only
    split <;> rfl

theorem lo_encN (nm : ByteArray) (l : List (ByteArray × Int)) : lo nm (encN l) = (lo nm l).map fun n => Value.int .i64 n := lo_map nm _ l

/-- Names that fit files. -/
structure NOK (files : List Fi) (nl : List (ByteArray × Int)) : Prop where
  k : (nl.map Prod.fst).Nodup
  n : (nl.map Prod.snd).Nodup
  l : ∀ x ∈ nl, x.2 ∈ files.map Fi.no
  ok : ∀ x ∈ nl, nmOK x.1 = true

/-- Changes that fit: no cut is behind the end. -/
def CutsOK (safe : List Int) (cs : List Chg) : Prop := ∀ (k c : Nat), cs[k]? = some (.inr c) → c ≤ (rowC safe (cs.take k)).1.length

/-- A disk that fits together; n bounds what has been done to it. -/
structure WD (n : Nat) (D : Dq) : Prop where
  room : 0 ≤ D.room ∧ D.room ≤ 4194304
  lim : 0 ≤ D.limit ∧ D.limit ≤ 512
  made : 0 ≤ D.made ∧ D.made ≤ n
  asc : (D.files.map Fi.no).Pairwise (· < ·)
  rng : ∀ f ∈ D.files, 1 ≤ f.no ∧ f.no ≤ D.made
  cnt : (D.files.length : Int) ≤ D.limit
  hld : (((D.files.map Fi.peak).sum : Nat) : Int) ≤ D.room
  saf : ∀ k, NOK D.files (D.namesAt k)
  tur : D.turns.length ≤ n
  chg : ∀ f ∈ D.files, f.cs.length ≤ n ∧ CutsOK f.safe f.cs
  st : 0 ≤ D.st ∧ D.st ≤ n
  rd : 0 ≤ D.rd ∧ D.rd ≤ n

theorem names_at (D : Dq) : D.names = D.namesAt D.turns.length := by simp [Dq.names, Dq.namesAt]

theorem WD.nam {n : Nat} {D : Dq} (h : WD n D) : NOK D.files D.names := by rw [names_at]; exact h.saf _

theorem WD.nd {n : Nat} {D : Dq} (h : WD n D) : (D.files.map Fi.no).Nodup := h.asc.imp (fun h e => by omega)

theorem peak_le_sum {f : Fi} : ∀ {l : List Fi}, f ∈ l → f.peak ≤ (l.map Fi.peak).sum
  | [], h => by cases h
  | g :: l, h => by
    rw [List.map_cons, List.sum_cons]
    rcases List.mem_cons.1 h with rfl | h
    · omega
    · have := peak_le_sum h; omega

theorem WD.peak {n : Nat} {D : Dq} (h : WD n D) {f : Fi} (hf : f ∈ D.files) : f.peak ≤ 4194304 := by
  have := peak_le_sum hf
  have := h.hld
  have := h.room
  omega

theorem WD.mono {n m : Nat} {D : Dq} (h : WD n D) (hm : n ≤ m) : WD m D :=
  ⟨h.room, h.lim, ⟨h.made.1, by have := h.made.2; omega⟩, h.asc, h.rng, h.cnt, h.hld, h.saf, by have := h.tur; omega, fun f hf => ⟨by have := (h.chg f hf).1; omega, (h.chg f hf).2⟩, ⟨h.st.1, by have := h.st.2; omega⟩, ⟨h.rd.1, by have := h.rd.2; omega⟩⟩

/-- The file of a name. -/
def Dq.look (D : Dq) (nm : ByteArray) : Option Fi := (lo nm D.names).bind fun n => ff n D.files

theorem look_mem {D : Dq} {nm : ByteArray} {f : Fi} (h : D.look nm = some f) : f ∈ D.files ∧ lo nm D.names = some f.no := by
  unfold Dq.look at h
  cases e : lo nm D.names with
  | none => rw [e] at h; cases h
  | some n =>
    rw [e] at h
    have := ff_mem (show ff n D.files = some f from h)
    exact ⟨this.1, by rw [this.2]⟩

/-- The errors ahead of the count, one name. -/
def pre1 (D : Dq) (nm : ByteArray) (ab : Bool) (sz : Int) : Int :=
  if D.off then 11 else if nmOK nm = false then 5 else
  match D.look nm with
  | some f => if ab then 7 else if sz < 0 ∨ (f.row.1.length : Int) < sz then 1 else 0
  | none => if ab then 0 else 6

/-- Of two names. -/
def pre2 (D : Dq) (nm mn : ByteArray) : Int :=
  if D.off then 11 else if (nmOK nm && nmOK mn) = false then 5 else
  match D.look nm with
  | some _ => 0
  | none => 6

/-- Of none. -/
def pre0 (D : Dq) : Int := if D.off then 11 else 0

/-- What find answers beside an error. -/
def fvOf (t : Wt) (D : Dq) (nm : ByteArray) (e : Int) : Value :=
  if e = 0 then (match D.look nm with | some f => .pointer (some ⟨t.pt f.no, 0, none⟩) | none => .pointer none) else .pointer none

section
variable {w : World} {d : Nat} {t : Wt} {D : Dq} {n : Nat}

theorem DkT.nkeys (h : DkT w d t D) (nm : ByteArray) : lo nm t.kn = (lo nm D.names).map fun n => Value.int .i64 n := by
  rw [lo_perm h.pn h.hN.keys, lo_encN]

theorem DkT.lkeys (h : DkT w d t D) (m : Int) : lo m t.kl = (ff m D.files).map fun f => Value.pointer (some ⟨t.pt f.no, 0, none⟩) := by
  rw [lo_perm h.pl h.hL.keys, lo_encL]

/-- What a look-up in the names and the living files finds. -/
theorem DkT.found (h : DkT w d t D) (hW : WD n D) (nm : ByteArray) : (D.look nm = none ∧ Instr.findNow .string (.string nm) t.eN.toList 0 = some none) ∨ ∃ f i i', D.look nm = some f ∧ f ∈ D.files ∧ Instr.findNow .string (.string nm) t.eN.toList 0 = some (some (i, .int .i64 f.no)) ∧ Instr.findNow (.int .i64) (.int .i64 f.no) t.eL.toList 0 = some (some (i', .pointer (some ⟨t.pt f.no, 0, none⟩))) := by
  have hk := h.nkeys nm
  cases e : lo nm D.names with
  | none =>
    rw [e] at hk
    exact .inl ⟨by simp [Dq.look, e], (h.hN.findn nm).1 hk⟩
  | some m =>
    rw [e] at hk
    obtain ⟨i, hi⟩ := (h.hN.findn nm).2 _ hk
    obtain ⟨f, hf⟩ := ff_some (hW.nam.l _ (lo_mem e))
    have hf2 := ff_mem hf
    have hl := h.lkeys m
    replace hf : ff m D.files = some f := hf
    rw [hf] at hl
    obtain ⟨i', hi'⟩ := (h.hL.findn m).2 _ hl
    have hno : f.no = m := hf2.2
    refine .inr ⟨f, i, i', by simp [Dq.look, e, hf], hf2.1, ?_, ?_⟩
    · rw [hno]; exact hi
    · have hi2 : Instr.findNow (.int .i64) (.int .i64 m) t.eL.toList 0 = some (some (i', .pointer (some ⟨t.pt f.no, 0, none⟩))) := hi'
      rw [hno] at hi2 ⊢
      exact hi2

/-- The row's place in a file's block. -/
theorem Fil.cell2 {ft : Nat → Prop} {p : Nat} {f : Fi} (h : Fil w ft p f) : ∃ ao cap, w.cell? ⟨p, 2, none⟩ = some (.slice ao f.row.1.length cap) := by
  obtain ⟨pend, vs, vp, vd, vf, hf, hp, ht⟩ := h
  obtain ⟨ao, cap, rfl⟩ := own_shape hf.od
  exact ⟨ao, cap, (cells5 hf.blk).2.2.1⟩

theorem find1_dk (h : DkT w d t D) (hW : WD n D) (g : Nat) (nm : ByteArray) (ab : Bool) (sz : Int) (hg : w.cell? ⟨g, 0, none⟩ = some (.string nm)) (hs : nm.size ≤ maxLen) (hsz : ab = true → sz = 0) :
    Calls Tryz.prog 61 #[.pointer (some ⟨d, 0, none⟩), .agg #[.slice (some ⟨g, 0, none⟩) 1 1, .bool ab, .int .i64 sz]] w fun x w' => x = .returned (.tuple #[fvOf t D nm (pre1 D nm ab sz), .int .i64 (pre1 D nm ab sz)]) ∧ Below w.heap.size w w' := by
  obtain ⟨c0, c1, c2, c3, c4, c5, c6, c7, c8, c9, c10, c11⟩ := h.disk.cells
  cases ho : D.off with
  | true =>
    rw [ho] at c7
    have e : pre1 D nm ab sz = 11 := by simp [pre1, ho]
    rw [e]
    exact find_off d _ _ _ w c7 rfl rfl rfl
  | false =>
    rw [ho] at c7
    cases hok : nmOK nm with
    | false =>
      have e : pre1 D nm ab sz = 5 := by simp [pre1, ho, hok]
      rw [e]
      exact find_bad1 d g nm w c7 hg hs ab sz hok
    | true =>
      rcases h.found hW nm with ⟨h1, h2⟩ | ⟨f, i, i', h1, hf, h2, h3⟩
      · cases ab with
        | true =>
          have e : pre1 D nm true sz = 0 := by simp [pre1, ho, hok, h1]
          obtain rfl := hsz rfl
          rw [e, show fvOf t D nm 0 = .pointer none by simp [fvOf, h1]]
          exact find_absent d g t.N nm t.eN t.cN w c7 c4 h.hN.blk hg hok hs h2
        | false =>
          have e : pre1 D nm false sz = 6 := by simp [pre1, ho, hok, h1]
          rw [e]
          exact find_missing1 d g nm w c7 hg hs t.N t.eN t.cN sz c4 h.hN.blk hok h2
      · obtain ⟨ao, cap, hp⟩ := (h.fil f hf).cell2
        cases ab with
        | true =>
          have e : pre1 D nm true sz = 7 := by simp [pre1, ho, hok, h1]
          obtain rfl := hsz rfl
          rw [e]
          exact find_exists d g t.N nm t.eN t.cN i f.no w c7 c4 h.hN.blk hg hok hs h2
        | false =>
          by_cases hz : sz < 0 ∨ (f.row.1.length : Int) < sz
          · have e : pre1 D nm false sz = 1 := by simp [pre1, ho, hok, h1, hz]
            rw [e]
            exact find_size1 d g nm w c7 hg hs t.N t.L _ t.eN t.eL t.cN t.cL i i' f.no sz ao f.row.1.length cap c4 c2 h.hN.blk h.hL.blk hok h2 h3 hp hz
          · have e : pre1 D nm false sz = 0 := by simp [pre1, ho, hok, h1, hz]
            rw [e, show fvOf t D nm 0 = .pointer (some ⟨t.pt f.no, 0, none⟩) by simp [fvOf, h1]]
            exact find_there d g t.N t.L _ nm t.eN t.eL t.cN t.cL i i' f.no sz ao f.row.1.length cap w c7 c4 c2 h.hN.blk h.hL.blk hg hok hs h2 h3 hp (by omega) (by omega)

theorem find2_dk (h : DkT w d t D) (hW : WD n D) (g : Nat) (nm mn : ByteArray) (hg : w.cell? ⟨g, 0, none⟩ = some (.string nm)) (hg1 : w.cell? ⟨g, 1, none⟩ = some (.string mn)) (hs : nm.size ≤ maxLen) (hs1 : mn.size ≤ maxLen) :
    Calls Tryz.prog 61 #[.pointer (some ⟨d, 0, none⟩), .agg #[.slice (some ⟨g, 0, none⟩) 2 2, .bool false, .int .i64 0]] w fun x w' => x = .returned (.tuple #[fvOf t D nm (pre2 D nm mn), .int .i64 (pre2 D nm mn)]) ∧ Below w.heap.size w w' := by
  obtain ⟨c0, c1, c2, c3, c4, c5, c6, c7, c8, c9, c10, c11⟩ := h.disk.cells
  cases ho : D.off with
  | true =>
    rw [ho] at c7
    have e : pre2 D nm mn = 11 := by simp [pre2, ho]
    rw [e]
    exact find_off d _ _ _ w c7 rfl rfl rfl
  | false =>
    rw [ho] at c7
    cases hok : (nmOK nm && nmOK mn) with
    | false =>
      have e : pre2 D nm mn = 5 := by unfold pre2; rw [ho, hok]; rfl
      rw [e]
      exact find_bad2 d g nm mn w c7 hg hs hg1 hs1 hok
    | true =>
      have hok2 : nmOK nm = true ∧ nmOK mn = true := by simpa using hok
      rcases h.found hW nm with ⟨h1, h2⟩ | ⟨f, i, i', h1, hf, h2, h3⟩
      · have e : pre2 D nm mn = 6 := by unfold pre2; rw [ho, hok, h1]; rfl
        rw [e]
        exact find_missing2 d g nm mn w c7 hg hs t.N t.eN t.cN hg1 hs1 c4 h.hN.blk hok2.1 hok2.2 h2
      · obtain ⟨ao, cap, hp⟩ := (h.fil f hf).cell2
        have e : pre2 D nm mn = 0 := by unfold pre2; rw [ho, hok, h1]; rfl
        rw [e, show fvOf t D nm 0 = .pointer (some ⟨t.pt f.no, 0, none⟩) by simp [fvOf, h1]]
        exact find_there2 d g nm mn w c7 hg hs t.N t.L _ t.eN t.eL t.cN t.cL i i' f.no ao f.row.1.length cap hg1 hs1 c4 c2 h.hN.blk h.hL.blk hok2.1 hok2.2 h2 h3 hp

theorem find0_dk (h : DkT w d t D) :
    Calls Tryz.prog 61 #[.pointer (some ⟨d, 0, none⟩), .agg #[.slice none 0 0, .bool false, .int .i64 0]] w fun x w' => x = .returned (.tuple #[.pointer none, .int .i64 (pre0 D)]) ∧ Below w.heap.size w w' := by
  obtain ⟨c0, c1, c2, c3, c4, c5, c6, c7, c8, c9, c10, c11⟩ := h.disk.cells
  cases ho : D.off with
  | true =>
    rw [ho] at c7
    rw [show pre0 D = 11 by simp [pre0, ho]]
    exact find_off d _ _ _ w c7 rfl rfl rfl
  | false =>
    rw [ho] at c7
    rw [show pre0 D = 0 by simp [pre0, ho]]
    exact find_plain d w c7

/-- A stroke counted. -/
def cntS (D : Dq) : Dq := { D with st := D.st + 1, off := decide (fo D.fs (D.st + 1) = 1) }
/-- A reading counted. -/
def cntR (D : Dq) : Dq := { D with rd := D.rd + 1, off := decide (fo D.fr (D.rd + 1) = 1) }

/-- A stroke. -/
def strokeP (D : Dq) (e : Int) (k : Dq → Int × Dq) : Int × Dq :=
  if e ≠ 0 then (e, D) else if fe (fo D.fs (D.st + 1)) ≠ 0 then (fe (fo D.fs (D.st + 1)), cntS D) else k (cntS D)

theorem count_dk (h : DkT w d t D) (hW : WD n D) (hn : n ≤ 1000000) (ho : D.off = false) :
    Calls Tryz.prog 63 #[.pointer (some ⟨d, 0, none⟩), .pointer (some ⟨d, 8, none⟩)] w fun x w' => x = .returned (.int .i64 (fe (fo D.fs (D.st + 1)))) ∧ DkT w' d t (cntS D) ∧ Kept (fun k => k = d) w w' := by
  have hd := h.disk
  rw [ho] at hd
  refine (count_st d D.fs w _ _ _ _ _ _ _ _ _ _ _ hd h.kf1 hW.st.1 (by have := hW.st.2; omega)).mono ?_
  rintro e w1 ⟨rfl, hd1, hk⟩
  exact ⟨rfl, (h.about hk (D' := cntS D) hd1 rfl rfl rfl rfl rfl).dk, hk⟩

theorem countR_dk (h : DkT w d t D) (hW : WD n D) (hn : n ≤ 1000000) (ho : D.off = false) :
    Calls Tryz.prog 63 #[.pointer (some ⟨d, 0, none⟩), .pointer (some ⟨d, 10, none⟩)] w fun x w' => x = .returned (.int .i64 (fe (fo D.fr (D.rd + 1)))) ∧ DkT w' d t (cntR D) ∧ Kept (fun k => k = d) w w' := by
  have hd := h.disk
  rw [ho] at hd
  refine (count_rd d D.fr w _ _ _ _ _ _ _ _ _ _ _ hd h.kf2 hW.rd.1 (by have := hW.rd.2; omega)).mono ?_
  rintro e w1 ⟨rfl, hd1, hk⟩
  exact ⟨rfl, (h.about hk (D' := cntR D) hd1 rfl rfl rfl rfl rfl).dk, hk⟩

theorem DkT.goes (_h : DkT w d t D) {w' : World} {D' : Dq} (h' : DkT w' d t D') (hk : Kept (fun k => k = d) w w') (hf : D'.files = D.files) : Goes d w t D w' t D' :=
  ⟨h', hk.mono (fun _ _ e => .inl e), fun k e => .inl (by unfold Dft at e ⊢; rw [hf] at e; exact e)⟩

theorem stroke_dk (h : DkT w d t D) (hW : WD n D) (hn : n ≤ 1000000) (a b c fv : Value) (e : Int) (ha : a.cells = #[a]) (hb : b.cells = #[b]) (hc : c.cells = #[c])
    (hfind : ∀ w1, Below w.heap.size w w1 → Calls Tryz.prog 61 #[.pointer (some ⟨d, 0, none⟩), .agg #[a, b, c]] w1 fun x w2 => x = .returned (.tuple #[fv, .int .i64 e]) ∧ Below w1.heap.size w1 w2)
    (hoff : e = 0 → D.off = false) (fn : Nat) (cap : Array Value) (he : ∀ args w, (callFunc fn args).run Tryz.prog w = .ok (.enter fn args) w) (k : Dq → Int × Dq)
    (hdo : e = 0 → fe (fo D.fs (D.st + 1)) = 0 → ∀ w2, DkT w2 d t (cntS D) → Kept (fun k => k = d) w w2 → Calls Tryz.prog fn (#[fv] ++ cap) w2 fun x w3 => x = .returned (.int .i64 (k (cntS D)).1) ∧ ∃ t', Goes d w2 t (cntS D) w3 t' (k (cntS D)).2) :
    Calls Tryz.prog 49 #[.pointer (some ⟨d, 0, none⟩), .agg #[a, b, c], .func (.func fn) #[] cap] w fun x w3 => x = .returned (.int .i64 (strokeP D e k).1) ∧ ∃ t', Goes d w t D w3 t' (strokeP D e k).2 := by
  have hba : Below w.heap.size w (w.alloc (.cells #[a, b, c] 109)) := (Below.refl _ _).alloc (Nat.le_refl _) _
  by_cases h0 : e = 0
  · subst h0
    by_cases h1 : fe (fo D.fs (D.st + 1)) = 0
    · have es : strokeP D 0 k = k (cntS D) := by simp [strokeP, h1]
      rw [es]
      refine stroke_ok d fn a b c fv cap (k (cntS D)).1 w (fun w1 => Below w.heap.size w w1) (fun w2 => DkT w2 d t (cntS D) ∧ Kept (fun k => k = d) w w2) _ he ha hb hc ?_ ?_ ?_
      · refine (hfind _ hba).mono ?_
        rintro x w1 ⟨rfl, hb1⟩
        exact ⟨rfl, hba.trans (hb1.mono (by simp))⟩
      · intro w1 hb1
        refine (count_dk (h.below hb1) hW hn (hoff rfl)).mono ?_
        rintro x w2 ⟨rfl, hd2, hk2⟩
        exact ⟨by rw [h1], hd2, (Kept.ofBelow hb1).mono (fun _ _ e => e.elim) |>.trans hk2 (fun _ _ e => e)⟩
      · rintro w2 ⟨hd2, hk2⟩
        refine (hdo rfl h1 w2 hd2 hk2).mono ?_
        rintro x w3 ⟨rfl, t', hg⟩
        exact ⟨rfl, t', (h.goes hd2 hk2 rfl).trans hg⟩
    · have es : strokeP D 0 k = (fe (fo D.fs (D.st + 1)), cntS D) := by simp [strokeP, h1]
      rw [es]
      refine stroke_bad d fn a b c fv cap _ w (fun w1 => Below w.heap.size w w1) (fun w2 => ∃ t', Goes d w t D w2 t' (cntS D)) (by simpa using h1) ha hb hc ?_ ?_
      · refine (hfind _ hba).mono ?_
        rintro x w1 ⟨rfl, hb1⟩
        exact ⟨rfl, hba.trans (hb1.mono (by simp))⟩
      · intro w1 hb1
        refine (count_dk (h.below hb1) hW hn (hoff rfl)).mono ?_
        rintro x w2 ⟨rfl, hd2, hk2⟩
        exact ⟨rfl, t, h.goes hd2 ((Kept.ofBelow hb1).mono (fun _ _ e => e.elim) |>.trans hk2 (fun _ _ e => e)) rfl⟩
  · have es : strokeP D e k = (e, D) := by simp [strokeP, h0]
    rw [es]
    refine stroke_no d fn a b c fv cap e w (fun w1 => ∃ t', Goes d w t D w1 t' D) (by simpa using h0) ha hb hc ?_
    refine (hfind _ hba).mono ?_
    rintro x w1 ⟨rfl, hb1⟩
    exact ⟨rfl, t, Goes.still h (hba.trans (hb1.mono (by simp)))⟩

theorem pre1_off {nm : ByteArray} {ab : Bool} {sz : Int} (h : pre1 D nm ab sz = 0) : D.off = false := by
  cases ho : D.off with
  | false => rfl
  | true => simp [pre1, ho] at h

theorem pre2_off {nm mn : ByteArray} (h : pre2 D nm mn = 0) : D.off = false := by
  cases ho : D.off with
  | false => rfl
  | true => simp [pre2, ho] at h

theorem pre0_off (h : pre0 D = 0) : D.off = false := by
  cases ho : D.off with
  | false => rfl
  | true => simp [pre0, ho] at h

/-- A name that is there, or is none. -/
theorem pre1_look {nm : ByteArray} {ab : Bool} {sz : Int} (h : pre1 D nm ab sz = 0) : nmOK nm = true ∧ (ab = true → D.look nm = none) ∧ (ab = false → ∃ f, D.look nm = some f ∧ 0 ≤ sz ∧ sz ≤ f.row.1.length) := by
  have ho := pre1_off h
  unfold pre1 at h
  rw [ho] at h
  cases hok : nmOK nm with
  | false => simp [hok] at h
  | true =>
    refine ⟨rfl, fun e => ?_, fun e => ?_⟩
    · subst e
      cases hl : D.look nm with
      | none => rfl
      | some f => simp [hok, hl] at h
    · subst e
      cases hl : D.look nm with
      | none => simp [hok, hl] at h
      | some f =>
        refine ⟨f, rfl, ?_⟩
        by_cases hz : sz < 0 ∨ (f.row.1.length : Int) < sz
        · simp [hok, hl, hz] at h
        · omega

theorem pre2_look {nm mn : ByteArray} (h : pre2 D nm mn = 0) : nmOK nm = true ∧ nmOK mn = true ∧ ∃ f, D.look nm = some f := by
  have ho := pre2_off h
  unfold pre2 at h
  rw [ho] at h
  cases hok : (nmOK nm && nmOK mn) with
  | false => rw [hok] at h; simp at h
  | true =>
    have hok2 : nmOK nm = true ∧ nmOK mn = true := by simpa using hok
    refine ⟨hok2.1, hok2.2, ?_⟩
    cases hl : D.look nm with
    | none => rw [hok, hl] at h; simp at h
    | some f => exact ⟨f, rfl⟩

end
end Go.Proofs.YtlmompdfombgeabGreat

namespace Go.Proofs.YtlmompdfombgeabGreat
open Go.RowKit Go.MapKept

theorem Pends.mem {w : World} {B : Nat} {vs vd : Value} {pend : List Value} {cs : List Chg} (hp : Pends w B vs vd pend cs) {sv : Value} (hm : Value.iface 116 sv ∈ pend) {k : Nat} (e : sv.ownBlock = some k) : (∃ c5, w.heap[k]? = some (.cells c5 5 (0, 0))) ∧ vs.ownBlock ≠ some k ∧ vd.ownBlock ≠ some k := by
  obtain ⟨i, hi, hv⟩ := List.mem_iff_getElem.1 hm
  have hi2 : i < cs.length := by have := hp.1; omega
  have := hp.2 i _ _ (by rw [List.getElem?_eq_getElem hi, hv]) (List.getElem?_eq_getElem hi2)
  cases hc : cs[i] with
  | inr n => rw [hc] at this; cases this
  | inl ys =>
    rw [hc] at this
    obtain ⟨sv', e', _, hb⟩ := this
    injection e' with _ e'
    subst e'
    obtain ⟨_, a, b, c⟩ := hb k e
    exact ⟨a, b, c⟩

section
variable {w : World} {ft : Nat → Prop} {p : Nat} {f : Fi}

theorem pendApp_fil (h : Fil w ft p f) (sv : Value) (ys : List Int) (hs : Sn w sv ys) (hsb : ∀ k, sv.ownBlock = some k → ¬ ft k ∧ ∃ c5, w.heap[k]? = some (.cells c5 5 (0, 0))) (l1 : f.cs.length ≤ 1000000) (l2 : f.peak ≤ 10000000) (l3 : ys.length ≤ 10000000) :
    Calls Tryz.prog 58 #[.pointer (some ⟨p, 0, none⟩), .iface 116 sv] w fun x w' => x = .returned (.tuple #[]) ∧ ∃ ft', Fil w' ft' p { f with cs := f.cs ++ [.inl ys] } ∧ Kept ft w w' ∧ ∀ k, ft' k → ft k ∨ w.heap.size ≤ k ∨ sv.ownBlock = some k := by
  obtain ⟨pend, vs, vp, vd, vf, hf, hp, ht⟩ := h
  have hr := row_le_peak f.safe f.cs
  have hr2 := rowC_len f.safe f.cs
  have hrw : f.row = rowC f.safe f.cs := rfl
  have hpk : f.peak = peakC f.safe f.cs := rfl
  have hpl := hp.1
  have fp : ∀ k, vp.ownBlock = some k → ft k := fun k e => (ht k).2 (.inr (.inr (.inl e)))
  have fd : ∀ k, vd.ownBlock = some k → ft k := fun k e => (ht k).2 (.inr (.inr (.inr (.inl e))))
  have ff : ∀ k, vf.ownBlock = some k → ft k := fun k e => (ht k).2 (.inr (.inr (.inr (.inr (.inl e)))))
  have fs : ∀ k, vs.ownBlock = some k → ft k := fun k e => (ht k).2 (.inr (.inl e))
  have f0 : ft p := (ht p).2 (.inl rfl)
  refine (pendApp_any 0 p sv ys w f.safe pend f.row.1 f.row.2 f.peak vs vp vd vf hf hs (Nat.zero_le _) (by omega) (by rw [hrw]; omega) (by rw [hrw]; omega) (by omega) (by omega) (by omega) (fun k e => ⟨fun e2 => (hsb k e).1 (by rw [e2]; exact f0), fun e2 => (hsb k e).1 (fp k e2)⟩)).mono ?_
  rintro x w' ⟨rfl, vp', vd', vf', hf', hl, hk', hlp, hlf⟩
  have hrow : Fi.row { f with cs := f.cs ++ [.inl ys] } = (f.row.1 ++ ys, f.row.2 ++ List.replicate ys.length true) := by unfold Fi.row; rw [rowC_snoc]; rfl
  have hpeak : ((Fi.peak { f with cs := f.cs ++ [.inl ys] } : Nat) : Int) = max (f.peak : Int) ((f.row.1 ++ ys).length : Nat) := by
    unfold Fi.peak
    rw [peakC_snoc, rowC_snoc]
    show ((max (peakC f.safe f.cs) (f.row.1 ++ ys).length : Nat) : Int) = _
    omega
  have hkS : Kept ft w w' := hk'.mono (by
    rintro k _ (rfl | e | e | e)
    · exact f0
    · exact fp k e
    · exact fd k e
    · exact ff k e)
  refine ⟨rfl, ftOf p (pend ++ [.iface 116 sv]) vs vp' vd' vf', ⟨pend ++ [.iface 116 sv], vs, vp', vd', vf', ?_, ?_, fun k => Iff.rfl⟩, hkS, ?_⟩
  · rw [hrow, hpeak]
    exact hf'
  · refine Pends.snoc ?_ ?_
    · refine hp.keptOf hk' ?_ (.inl rfl) ?_
      · rintro sv' k hm e hS
        obtain ⟨⟨c5, a⟩, b, c⟩ := hp.mem hm e
        rcases hS with rfl | e2 | e2 | e2
        · exact hp_ne hf.blk a (by simp) rfl
        · exact own_ne_blk hf.op a (by decide) e2
        · exact c e2
        · exact own_ne_blk hf.of a (by decide) e2
      · rcases hl with hl | ⟨k, h1, h2⟩
        · exact .inl hl
        · exact .inr fun j e => by rw [h2] at e; injection e with e; omega
    · refine ⟨sv, rfl, hs.kept hkS (fun k e => (hsb k e).1), fun k e => ⟨Nat.zero_le _, ?_, fun e2 => (hsb k e).1 (fs k e2), ?_⟩⟩
      · obtain ⟨c5, a⟩ := (hsb k e).2
        exact ⟨c5, hp_kept a hkS (hsb k e).1⟩
      · intro e2
        rcases hl with hl | ⟨j, h1, h2⟩
        · rw [hl] at e2; exact (hsb k e).1 (fd k e2)
        · rw [h2] at e2; injection e2 with e2
          obtain ⟨c5, a⟩ := (hsb k e).2
          have := hp_lt a
          omega
  · rintro k (rfl | e | e | e | e | ⟨sv', hm, e⟩)
    · exact .inl f0
    · exact .inl (fs k e)
    · rcases hlp with hlp | ⟨j, h1, h2⟩
      · rw [hlp] at e; exact .inl (fp k e)
      · rw [h2] at e; injection e with e; exact .inr (.inl (by omega))
    · rcases hl with hl | ⟨j, h1, h2⟩
      · rw [hl] at e; exact .inl (fd k e)
      · rw [h2] at e; injection e with e; exact .inr (.inl (by omega))
    · rcases hlf with hlf | ⟨j, h1, h2⟩
      · rw [hlf] at e; exact .inl (ff k e)
      · rw [h2] at e; injection e with e; exact .inr (.inl (by omega))
    · rcases List.mem_append.1 hm with hm | hm
      · exact .inl ((ht k).2 (.inr (.inr (.inr (.inr (.inr ⟨sv', hm, e⟩))))))
      · rw [List.mem_singleton] at hm
        injection hm with _ hm
        subst hm
        exact .inr (.inr e)

theorem pendCut_fil (h : Fil w ft p f) (c : Nat) (hc : c ≤ f.row.1.length) (l1 : f.cs.length ≤ 1000000) (l2 : f.peak ≤ 10000000) :
    Calls Tryz.prog 58 #[.pointer (some ⟨p, 0, none⟩), .iface 124 (.int .i64 c)] w fun x w' => x = .returned (.tuple #[]) ∧ ∃ ft', Fil w' ft' p { f with cs := f.cs ++ [.inr c] } ∧ Kept ft w w' ∧ ∀ k, ft' k → ft k ∨ w.heap.size ≤ k := by
  obtain ⟨pend, vs, vp, vd, vf, hf, hp, ht⟩ := h
  have hr := row_le_peak f.safe f.cs
  have hr2 := rowC_len f.safe f.cs
  have hrw : f.row = rowC f.safe f.cs := rfl
  have hpk : f.peak = peakC f.safe f.cs := rfl
  have hpl := hp.1
  have fp : ∀ k, vp.ownBlock = some k → ft k := fun k e => (ht k).2 (.inr (.inr (.inl e)))
  have fd : ∀ k, vd.ownBlock = some k → ft k := fun k e => (ht k).2 (.inr (.inr (.inr (.inl e))))
  have ff : ∀ k, vf.ownBlock = some k → ft k := fun k e => (ht k).2 (.inr (.inr (.inr (.inr (.inl e)))))
  have fs : ∀ k, vs.ownBlock = some k → ft k := fun k e => (ht k).2 (.inr (.inl e))
  have f0 : ft p := (ht p).2 (.inl rfl)
  rw [hrw] at hc
  refine (pendCut_any 0 p c w f.safe pend f.row.1 f.row.2 f.peak vs vp vd vf hf (Nat.zero_le _) (by omega) (by rw [hrw]; omega) (by rw [hrw]; omega) (by rw [hrw]; omega) (by omega) (by omega) (by omega)).mono ?_
  rintro x w' ⟨rfl, vp', vd', vf', hf', hl, hk', hlp, hlf⟩
  have hrow : Fi.row { f with cs := f.cs ++ [.inr c] } = (f.row.1.take c, f.row.2.take c) := by unfold Fi.row; rw [rowC_snoc]; rfl
  have hpeak : (Fi.peak { f with cs := f.cs ++ [.inr c] }) = f.peak := by
    unfold Fi.peak
    rw [peakC_snoc, rowC_snoc]
    show max (peakC f.safe f.cs) (f.row.1.take c).length = peakC f.safe f.cs
    rw [List.length_take, hrw]
    omega
  have hkS : Kept ft w w' := hk'.mono (by
    rintro k _ (rfl | e)
    · exact f0
    · exact fp k e)
  refine ⟨rfl, ftOf p (pend ++ [.iface 124 (.int .i64 c)]) vs vp' vd' vf', ⟨pend ++ [.iface 124 (.int .i64 c)], vs, vp', vd', vf', ?_, ?_, fun k => Iff.rfl⟩, hkS, ?_⟩
  · rw [hrow, hpeak]
    exact hf'
  · refine Pends.snoc ?_ rfl
    refine hp.keptOf hk' ?_ (.inl rfl) (.inl hl)
    rintro sv' k hm e hS
    obtain ⟨⟨c5, a⟩, b, c⟩ := hp.mem hm e
    rcases hS with rfl | e2
    · exact hp_ne hf.blk a (by simp) rfl
    · exact own_ne_blk hf.op a (by decide) e2
  · rintro k (rfl | e | e | e | e | ⟨sv', hm, e⟩)
    · exact .inl f0
    · exact .inl (fs k e)
    · rcases hlp with hlp | ⟨j, h1, h2⟩
      · rw [hlp] at e; exact .inl (fp k e)
      · rw [h2] at e; injection e with e; exact .inr (by omega)
    · rw [hl] at e; exact .inl (fd k e)
    · rw [hlf] at e; exact .inl (ff k e)
    · rcases List.mem_append.1 hm with hm | hm
      · exact .inl ((ht k).2 (.inr (.inr (.inr (.inr (.inr ⟨sv', hm, e⟩))))))
      · rw [List.mem_singleton] at hm
        injection hm with hm
        simp at hm

theorem sync_fil (h : Fil w ft p f) (l2 : f.peak ≤ 10000000) :
    Calls Tryz.prog 51 #[.pointer (some ⟨p, 0, none⟩)] w fun x w' => x = .returned (.tuple #[]) ∧ ∃ ft', Fil w' ft' p { f with safe := f.row.1, cs := [] } ∧ Kept ft w w' ∧ ∀ k, ft' k → ft k ∨ w.heap.size ≤ k := by
  obtain ⟨pend, vs, vp, vd, vf, hf, hp, ht⟩ := h
  have hr := row_le_peak f.safe f.cs
  have hs := safe_le_peak f.safe f.cs
  have hrw : f.row = rowC f.safe f.cs := rfl
  have hpk : f.peak = peakC f.safe f.cs := rfl
  have fp : ∀ k, vp.ownBlock = some k → ft k := fun k e => (ht k).2 (.inr (.inr (.inl e)))
  have fd : ∀ k, vd.ownBlock = some k → ft k := fun k e => (ht k).2 (.inr (.inr (.inr (.inl e))))
  have ff : ∀ k, vf.ownBlock = some k → ft k := fun k e => (ht k).2 (.inr (.inr (.inr (.inr (.inl e)))))
  have fs : ∀ k, vs.ownBlock = some k → ft k := fun k e => (ht k).2 (.inr (.inl e))
  have f0 : ft p := (ht p).2 (.inl rfl)
  obtain ⟨m, t, h1, h2, h3, h4⟩ := rowC_shape f.safe f.cs
  rw [← hrw] at h1 h2 h4
  rw [h1] at hf
  refine (sync_any 0 p w f.safe pend f.row.1 m t f.peak vs vp vd vf hf (Nat.zero_le _) h2 h3 h4 (by rw [hrw]; omega) (by omega)).mono ?_
  rintro x w' ⟨rfl, vs', hf', hk', hls⟩
  have hkS : Kept ft w w' := hk'.mono (by
    rintro k _ (rfl | e | e)
    · exact f0
    · exact fs k e
    · exact ff k e)
  refine ⟨rfl, ftOf p [] vs' (.slice none 0 0) vd vf, ⟨[], vs', .slice none 0 0, vd, vf, ?_, Pends.nil _ _ _ _, fun k => Iff.rfl⟩, hkS, ?_⟩
  · have e : Fi.row { f with safe := f.row.1, cs := [] } = (f.row.1, frs (m + t) 0) := by
      unfold Fi.row rowC
      simp only [List.foldl_nil]
      rw [frs_zero, ← h2]
      rfl
    rw [e]
    exact hf'
  · rintro k (rfl | e | e | e | e | ⟨sv', hm, e⟩)
    · exact .inl f0
    · rcases hls with hls | ⟨j, h5, h6⟩
      · rw [hls] at e; exact .inl (fs k e)
      · rw [h6] at e; injection e with e; exact .inr (by omega)
    · simp [Value.ownBlock] at e
    · exact .inl (fd k e)
    · exact .inl (ff k e)
    · cases hm

/-- A file that is new. -/
theorem fil_new {w' : World} {B p : Nat} {bs : List Int} {vs vd vf : Value} (hf : FileAt w' B p bs [] bs (List.replicate bs.length false) bs.length vs (.slice none 0 0) vd vf) (hp : B ≤ p) (no : Int) : ∃ ft', Fil w' ft' p ⟨no, bs, []⟩ ∧ ∀ k, ft' k → B ≤ k := by
  refine ⟨ftOf p [] vs (.slice none 0 0) vd vf, ⟨[], vs, .slice none 0 0, vd, vf, hf.base (Nat.zero_le _), Pends.nil _ _ _ _, fun k => Iff.rfl⟩, ?_⟩
  rintro k (rfl | e | e | e | e | ⟨sv', hm, e⟩)
  · exact hp
  · exact (hf.os.lt k e).1
  · simp [Value.ownBlock] at e
  · exact (hf.od.lt k e).1
  · exact (hf.of.lt k e).1
  · cases hm

end
end Go.Proofs.YtlmompdfombgeabGreat
