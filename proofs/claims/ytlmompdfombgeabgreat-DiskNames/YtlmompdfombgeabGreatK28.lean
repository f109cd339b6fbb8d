import Derived.Test.YtlmompdfombgeabGreatK27
namespace Go.Proofs.YtlmompdfombgeabGreat
open Go.RowKit Go.MapKept

/-- The six names of the law. -/
def tt (a : Nat) : ByteArray := ⟨#[UInt8.ofNat (97 + a)]⟩

theorem tt_inj : ∀ a, a < 6 → ∀ b, b < 6 → tt a = tt b → a = b := by decide
theorem tt_ok : ∀ a, a < 6 → nmOK (tt a) = true := by decide
theorem tt_ne : ∀ a, a < 6 → tt a ≠ ⟨#[]⟩ := by decide
theorem tt_emp (a : Nat) : (tt a).toList.isEmpty = false := by
  unfold tt
  rw [Lib.toList_data]
  rfl
theorem emp_emp : (⟨#[]⟩ : ByteArray).toList.isEmpty = true := by
  rw [Lib.toList_data]
  rfl

theorem lo_del (k k' : ByteArray) : ∀ l : List (ByteArray × Int), lo k (delA k' l) = if k = k' then none else lo k l
  | [] => by simp [delA, lo]
  | x :: l => by
    have ih := lo_del k k' l
    unfold delA at *
    rw [List.filter_cons]
    by_cases hx : x.1 = k'
    · rw [if_neg (by simp [hx]), ih]
      by_cases hk : k = k'
      · rw [if_pos hk, if_pos hk]
      · rw [if_neg hk, if_neg hk, lo, if_neg (fun e => hk (e.symm.trans hx))]
    · rw [if_pos (by simp [hx]), lo, lo, ih]
      by_cases hk : k = k'
      · rw [if_pos hk, if_pos hk, if_neg (fun e => hx (e.trans hk))]
      · rw [if_neg hk, if_neg hk]

theorem lo_set (k k' : ByteArray) (v : Int) (l : List (ByteArray × Int)) : lo k (setA k' v l) = if k = k' then some v else lo k l := by
  unfold setA
  by_cases hk : k = k'
  · subst hk
    rw [if_pos rfl]
    exact lo_append_new (by rw [lo_del, if_pos rfl])
  · rw [if_neg hk]
    have h := lo_del k k' l
    rw [if_neg hk] at h
    cases hl : lo k l with
    | some u => exact lo_append_some _ (by rw [h, hl])
    | none =>
      rw [lo_none]
      intro x hx
      rcases List.mem_append.1 hx with hx | hx
      · exact lo_none.1 (by rw [h, hl]) x hx
      · have : x = (k', v) := by simpa using hx
        rw [this]
        exact fun e => hk e.symm

theorem mem_del {k : ByteArray} {l : List (ByteArray × Int)} {x : ByteArray × Int} (h : x ∈ delA k l) : x ∈ l := (List.mem_filter.1 h).1

/-- One row of the law is what a list of names has. -/
def RowOk (D : Dq) (l : List (ByteArray × Int)) (r : List Int) : Prop :=
  r.length = 6 ∧ ∀ a, a < 6 → (lo (tt a) l = none ∧ r[a]? = some 0) ∨ ∃ m b, lo (tt a) l = some m ∧ r[a]? = some b ∧ (1 ≤ b ∧ b < 256) ∧ rowN D m = [b]

def OnlyT (l : List (ByteArray × Int)) : Prop := ∀ x ∈ l, ∃ a, a < 6 ∧ x.1 = tt a

structure NmI (D : Dq) (rows : List (List Int)) (n : Nat) : Prop where
  off : D.off = false
  fs : D.fs = []
  fr : D.fr = []
  room : D.room = 1000
  lim : D.limit = 512
  rl : rows.length = D.turns.length + 1
  cnt : D.files.length ≤ n
  fil : ∀ f ∈ D.files, f.cs = [] ∧ f.safe.length = 1
  at_ : ∀ j r, rows[j]? = some r → RowOk D (D.namesAt j) r
  only : ∀ j, OnlyT (D.namesAt j)

theorem nmI_start : NmI (newD 1000 512) [[0, 0, 0, 0, 0, 0]] 0 := by
  have e : ∀ j, (newD 1000 512).namesAt j = [] := fun j => by simp [Dq.namesAt, newD]
  refine ⟨rfl, rfl, rfl, rfl, rfl, rfl, Nat.le_refl _, (fun f hf => by cases hf), fun j r hr => ?_, fun j => ?_⟩
  · have : r = [0, 0, 0, 0, 0, 0] := by
      cases j with
      | zero => exact (Option.some.inj hr).symm
      | succ j => cases hr
    subst this
    rw [e]
    refine ⟨rfl, fun a ha => .inl ⟨rfl, ?_⟩⟩
    rcases a with _ | _ | _ | _ | _ | _ | a
    all_goals first | rfl | omega
  · rw [e]
    intro x hx
    cases hx

theorem stroke_go {D : Dq} (hf : D.fs = []) (k : Dq → Int × Dq) : strokeP D 0 k = k { D with st := D.st + 1, off := false } := by
  unfold strokeP
  rw [if_neg (by simp), if_neg (by rw [hf]; simp [fo, fe]), cntS_none hf]

theorem stroke_er {D : Dq} {e : Int} (he : e ≠ 0) (k : Dq → Int × Dq) : strokeP D e k = (e, D) := by
  unfold strokeP
  rw [if_pos he]

section
variable {D : Dq} {rows : List (List Int)} {n k : Nat} {now : List Int} {a : Nat}

theorem NmI.now_ok (h : NmI D rows n) (hr : rows[D.turns.length]? = some now) : RowOk D D.names now := by
  rw [names_at]
  exact h.at_ _ _ hr

theorem row_none {l : List (ByteArray × Int)} (h : RowOk D l now) (ha : a < 6) (h0 : now[a]? = some 0) : lo (tt a) l = none := by
  rcases h.2 a ha with ⟨h1, _⟩ | ⟨m, b, _, h2, h3, _⟩
  · exact h1
  · rw [h0] at h2
    have := Option.some.inj h2
    omega

theorem row_some {l : List (ByteArray × Int)} {b : Int} (h : RowOk D l now) (ha : a < 6) (h0 : now[a]? = some b) (hb : b ≠ 0) : ∃ m, lo (tt a) l = some m ∧ rowN D m = [b] ∧ 1 ≤ b ∧ b < 256 := by
  rcases h.2 a ha with ⟨_, h1⟩ | ⟨m, b', h1, h2, h3, h4⟩
  · rw [h0] at h1
    exact absurd (Option.some.inj h1) hb
  · rw [h0] at h2
    obtain rfl := Option.some.inj h2
    exact ⟨m, h1, h4, h3⟩

theorem rowN_ff {m b : Int} (h : rowN D m = [b]) : ∃ f, ff m D.files = some f := by
  unfold rowN at h
  cases hf : ff m D.files with
  | none => rw [hf] at h; cases h
  | some f => exact ⟨f, rfl⟩

theorem nlook_none (hl : lo (tt a) D.names = none) : D.look (tt a) = none := by
  unfold Dq.look
  rw [hl]
  rfl

theorem nlook_some {m b : Int} (hl : lo (tt a) D.names = some m) (h : rowN D m = [b]) : ∃ f, D.look (tt a) = some f ∧ ff m D.files = some f := by
  obtain ⟨f, hf⟩ := rowN_ff h
  refine ⟨f, ?_, hf⟩
  unfold Dq.look
  rw [hl]
  exact hf

/-- A name that is there already. -/
theorem create_no (h : NmI D rows n) (hr : rows[D.turns.length]? = some now) (ha : a < 6) {b : Int} (h0 : now[a]? = some b) (hb : b ≠ 0) : createP D (tt a) = (7, D) := by
  obtain ⟨m, h1, h2, _⟩ := row_some (h.now_ok hr) ha h0 hb
  obtain ⟨f, h3, _⟩ := nlook_some h1 h2
  unfold createP
  have : pre1 D (tt a) true 0 = 7 := by
    unfold pre1
    rw [h.off, tt_ok a ha, h3]
    rfl
  rw [this]
  exact stroke_er (by decide) _

theorem ff_app (m : Int) (f : Fi) : ∀ l : List Fi, ff m (l ++ [f]) = match ff m l with | some g => some g | none => if f.no = m then some f else none
  | [] => rfl
  | g :: l => by
    rw [List.cons_append, ff, ff, ff_app m f l]
    by_cases h : g.no = m
    · rw [if_pos h, if_pos h]
    · rw [if_neg h, if_neg h]

theorem ff_no {m : Int} : ∀ {l : List Fi}, (∀ f ∈ l, f.no ≠ m) → ff m l = none
  | [], _ => rfl
  | g :: l, h => by
    rw [ff, if_neg (h g List.mem_cons_self)]
    exact ff_no (fun f hf => h f (List.mem_cons_of_mem _ hf))

theorem setF_last {g g' : Fi} {l : List Fi} (hl : ∀ f ∈ l, f.no ≠ g'.no) (hg : g.no = g'.no) : setF g' (l ++ [g]) = l ++ [g'] := by
  unfold setF
  rw [List.map_append]
  congr 1
  · conv => rhs; rw [← List.map_id l]
    refine List.map_congr_left fun f hf => ?_
    rw [if_neg (hl f hf)]
    rfl
  · simp [hg]

/-- A disk whose last file has this name. -/
structure Lastf (X : Dq) (nm : ByteArray) (l : List Fi) (g : Fi) : Prop where
  off : X.off = false
  fs : X.fs = []
  nm : lo nm X.names = some g.no
  fi : X.files = l ++ [g]
  ne : ∀ f ∈ l, f.no ≠ g.no

theorem Lastf.look {X : Dq} {nm : ByteArray} {l : List Fi} {g : Fi} (h : Lastf X nm l g) : X.look nm = some g := by
  unfold Dq.look
  rw [h.nm, h.fi]
  show ff g.no (l ++ [g]) = some g
  rw [ff_app, ff_no h.ne, if_pos rfl]

theorem Lastf.pre {X : Dq} {nm : ByteArray} {l : List Fi} {g : Fi} (h : Lastf X nm l g) (hok : nmOK nm = true) : pre1 X nm false 0 = 0 := by
  unfold pre1
  rw [h.off, hok, h.look]
  simp

theorem Lastf.sync {X : Dq} {nm : ByteArray} {l : List Fi} {g : Fi} (h : Lastf X nm l g) (hok : nmOK nm = true) : syncP X nm = (0, { X with st := X.st + 1, off := false, files := l ++ [{ g with safe := g.row.1, cs := [] }] }) := by
  unfold syncP
  rw [h.pre hok, stroke_go h.fs]
  unfold syncK
  have : ({ X with st := X.st + 1, off := false } : Dq).look nm = some g := h.look
  rw [this]
  dsimp only
  rw [h.fi, setF_last (g := g) (g' := { g with safe := g.row.1, cs := [] }) h.ne rfl]

theorem Lastf.app {X : Dq} {nm : ByteArray} {l : List Fi} {g : Fi} (h : Lastf X nm l g) (hok : nmOK nm = true) (b : Int) (hroom : ¬ X.room < (heldD X : Int) - g.peak + max (g.peak : Int) ((g.row.1.length : Int) + 1)) :
    appP X nm [b] = (0, { X with st := X.st + 1, off := false, files := l ++ [{ g with cs := g.cs ++ [.inl [b]] }] }) := by
  unfold appP
  rw [h.pre hok, stroke_go h.fs]
  unfold appK
  have : ({ X with st := X.st + 1, off := false } : Dq).look nm = some g := h.look
  rw [this]
  dsimp only
  split
  · rename_i hc
    exact absurd hc hroom
  · rw [if_neg (by simp), h.fi, setF_last (g := g) (g' := { g with cs := g.cs ++ [.inl [b]] }) h.ne rfl]

theorem RowOk.more {D' : Dq} {l : List (ByteArray × Int)} {r : List Int} (h : RowOk D l r) (hm : ∀ m b, rowN D m = [b] → rowN D' m = [b]) : RowOk D' l r :=
  ⟨h.1, fun a ha => (h.2 a ha).imp id (fun ⟨m, b, h1, h2, h3, h4⟩ => ⟨m, b, h1, h2, h3, hm m b h4⟩)⟩

theorem NmI.push (h : NmI D rows n) {D' : Dq} {x : Nmg} {r' : List Int} {n' : Nat} (e0 : D'.off = false) (e1 : D'.fs = []) (e2 : D'.fr = []) (e3 : D'.room = 1000) (e4 : D'.limit = 512) (hs : D'.safeN = D.safeN) (ht : D'.turns = D.turns ++ [x])
    (hm : ∀ m b, rowN D m = [b] → rowN D' m = [b]) (hc : D'.files.length ≤ n') (hf : ∀ f ∈ D'.files, f.cs = [] ∧ f.safe.length = 1) (hr : RowOk D' (doT D.names x) r') (ho : OnlyT (doT D.names x)) : NmI D' (rows ++ [r']) n' := by
  have hn : ∀ j, D'.namesAt j = if j ≤ D.turns.length then D.namesAt j else doT D.names x := fun j => by
    rw [← namesAt_snoc D x j]
    unfold Dq.namesAt
    rw [hs, ht]
  refine ⟨e0, e1, e2, e3, e4, by rw [List.length_append, h.rl, ht]; simp, hc, hf, fun j r hj => ?_, fun j => ?_⟩
  · rw [hn]
    by_cases hjl : j < rows.length
    · rw [List.getElem?_append_left hjl] at hj
      rw [if_pos (by have := h.rl; omega)]
      exact (h.at_ j r hj).more hm
    · have hl := (List.getElem?_eq_some_iff.1 hj).1
      simp at hl
      have hje : j = rows.length := by omega
      subst hje
      rw [List.getElem?_append_right (Nat.le_refl _), Nat.sub_self] at hj
      obtain rfl : r' = r := Option.some.inj hj
      rw [if_neg (by have := h.rl; omega)]
      exact hr
  · rw [hn]
    split
    · exact h.only j
    · exact ho

theorem held_len (h : NmI D rows n) : heldD D = D.files.length := by
  unfold heldD
  have : ∀ l : List Fi, (∀ f ∈ l, f.cs = [] ∧ f.safe.length = 1) → (l.map Fi.peak).sum = l.length := by
    intro l
    induction l with
    | nil => intro _; rfl
    | cons f l ih =>
      intro hl
      rw [List.map_cons, List.sum_cons, ih (fun g hg => hl g (List.mem_cons_of_mem _ hg)), List.length_cons]
      obtain ⟨h1, h2⟩ := hl f List.mem_cons_self
      have : f.peak = 1 := by
        unfold Fi.peak peakC
        rw [h1]
        exact h2
      omega
  exact this _ h.fil

/-- A new file, with its byte, synced. -/
theorem create_yes (h : NmI D rows n) (hW : WD k D) (hr : rows[D.turns.length]? = some now) (ha : a < 6) (h0 : now[a]? = some 0) (hn : n ≤ 100) (b : Int) (hb : 1 ≤ b ∧ b < 256) :
    (createP D (tt a)).1 = 0 ∧ (appP (createP D (tt a)).2 (tt a) [b]).1 = 0 ∧ (syncP (appP (createP D (tt a)).2 (tt a) [b]).2 (tt a)).1 = 0 ∧ NmI (syncP (appP (createP D (tt a)).2 (tt a) [b]).2 (tt a)).2 (rows ++ [now.set a b]) (n + 1) := by
  have hno := h.now_ok hr
  have hlo := row_none hno ha h0
  have hok := tt_ok a ha
  have e1 : createP D (tt a) = (0, { D with st := D.st + 1, off := false, made := D.made + 1, files := D.files ++ [⟨D.made + 1, [], []⟩], turns := D.turns ++ [(⟨#[]⟩, tt a, D.made + 1)] }) := by
    unfold createP
    have : pre1 D (tt a) true 0 = 0 := by
      unfold pre1
      rw [h.off, hok, nlook_none hlo]
      rfl
    rw [this, stroke_go h.fs]
    unfold createK
    rw [if_neg (by show ¬ D.limit ≤ (D.files.length : Int); have := h.lim; have := h.cnt; omega)]
  have hne : ∀ f ∈ D.files, f.no ≠ D.made + 1 := fun f hf => by have := (hW.rng f hf).2; omega
  have hnm : lo (tt a) (doT D.names (⟨#[]⟩, tt a, D.made + 1)) = some (D.made + 1) := by
    unfold doT
    rw [if_neg (by rw [tt_emp]; decide), lo_set, if_pos rfl]
  have hnames : ∀ X : Dq, X.safeN = D.safeN → X.turns = D.turns ++ [(⟨#[]⟩, tt a, D.made + 1)] → lo (tt a) X.names = some (D.made + 1) := fun X h1 h2 => by
    rw [← hnm]
    unfold Dq.names
    rw [h1, h2, List.foldl_append]
    rfl
  have L1 : Lastf ({ D with st := D.st + 1, off := false, made := D.made + 1, files := D.files ++ [⟨D.made + 1, [], []⟩], turns := D.turns ++ [(⟨#[]⟩, tt a, D.made + 1)] } : Dq) (tt a) D.files ⟨D.made + 1, [], []⟩ := ⟨rfl, h.fs, hnames _ rfl rfl, rfl, hne⟩
  rw [e1]
  dsimp only
  have e2 := L1.app hok b (by
    have hh : heldD ({ D with st := D.st + 1, off := false, made := D.made + 1, files := D.files ++ [⟨D.made + 1, [], []⟩], turns := D.turns ++ [(⟨#[]⟩, tt a, D.made + 1)] } : Dq) = D.files.length := by
      rw [← held_len h]
      unfold heldD
      show ((D.files ++ [(⟨D.made + 1, [], []⟩ : Fi)]).map Fi.peak).sum = _
      rw [List.map_append, List.sum_append]
      rfl
    rw [hh]
    show ¬ D.room < _
    have h1 : (⟨D.made + 1, [], []⟩ : Fi).peak = 0 := rfl
    have h2 : (⟨D.made + 1, [], []⟩ : Fi).row.1.length = 0 := rfl
    rw [h1, h2]
    have := h.room
    have := h.cnt
    omega)
  rw [e2]
  dsimp only
  have L2 : Lastf ({ D with st := D.st + 1 + 1, off := false, made := D.made + 1, files := D.files ++ [⟨D.made + 1, [], [.inl [b]]⟩], turns := D.turns ++ [(⟨#[]⟩, tt a, D.made + 1)] } : Dq) (tt a) D.files ⟨D.made + 1, [], [.inl [b]]⟩ := ⟨rfl, h.fs, hnames _ rfl rfl, rfl, hne⟩
  have e3 := L2.sync hok
  refine ⟨rfl, rfl, ?_, ?_⟩
  · exact congrArg Prod.fst e3
  · have e4 := congrArg Prod.snd e3
    refine e4 ▸ ?_
    have hrow : rowN ({ D with st := D.st + 1 + 1 + 1, off := false, made := D.made + 1, files := D.files ++ [⟨D.made + 1, [b], []⟩], turns := D.turns ++ [(⟨#[]⟩, tt a, D.made + 1)] } : Dq) (D.made + 1) = [b] := by
      unfold rowN
      show ((ff (D.made + 1) (D.files ++ [(⟨D.made + 1, [b], []⟩ : Fi)])).map fun f => f.row.1).getD [] = [b]
      rw [ff_app, ff_no hne, if_pos rfl]
      rfl
    have hold : ∀ m c, rowN D m = [c] → rowN ({ D with st := D.st + 1 + 1 + 1, off := false, made := D.made + 1, files := D.files ++ [⟨D.made + 1, [b], []⟩], turns := D.turns ++ [(⟨#[]⟩, tt a, D.made + 1)] } : Dq) m = [c] := fun m c hm => by
      obtain ⟨f, hf⟩ := rowN_ff hm
      rw [← hm]
      unfold rowN
      show ((ff m (D.files ++ [(⟨D.made + 1, [b], []⟩ : Fi)])).map fun f => f.row.1).getD [] = _
      rw [ff_app, hf]
    refine h.push (x := (⟨#[]⟩, tt a, D.made + 1)) rfl h.fs h.fr h.room h.lim rfl rfl hold (by rw [List.length_append]; have := h.cnt; simp; omega) ?_ ?_ ?_
    · intro f hf
      rcases List.mem_append.1 hf with hf | hf
      · exact h.fil f hf
      · have : f = ⟨D.made + 1, [b], []⟩ := List.mem_singleton.1 hf
        rw [this]
        exact ⟨rfl, rfl⟩
    · refine ⟨by rw [List.length_set]; exact hno.1, fun a' ha' => ?_⟩
      unfold doT
      rw [if_neg (by rw [tt_emp]; decide)]
      by_cases hx : a' = a
      · subst hx
        exact .inr ⟨D.made + 1, b, by rw [lo_set, if_pos rfl], List.getElem?_set_self (by rw [hno.1]; exact ha'), hb, hrow⟩
      · have hx2 : tt a' ≠ tt a := fun e => hx (tt_inj a' ha' a ha e)
        rw [lo_set, if_neg hx2, lo_del, if_neg (tt_ne a' ha'), List.getElem?_set_ne (fun e => hx e.symm)]
        exact (hno.more hold).2 a' ha'
    · intro x hx
      unfold doT at hx
      rw [if_neg (by rw [tt_emp]; decide)] at hx
      unfold setA at hx
      rcases List.mem_append.1 hx with hx | hx
      · have h1 := mem_del (mem_del hx)
        rw [names_at] at h1
        exact h.only _ x h1
      · have : x = (tt a, D.made + 1) := by simpa using hx
        rw [this]
        exact ⟨a, ha, rfl⟩

/-- Rename: of a name that is not there, to itself, to another. -/
theorem ren_no (h : NmI D rows n) (hr : rows[D.turns.length]? = some now) (ha : a < 6) {c : Nat} (hc : c < 6) (h0 : now[a]? = some 0) : renP D (tt a) (tt c) = (6, D) := by
  unfold renP
  have : pre2 D (tt a) (tt c) = 6 := by
    unfold pre2
    rw [h.off, tt_ok a ha, tt_ok c hc, nlook_none (row_none (h.now_ok hr) ha h0)]
    rfl
  rw [this]
  exact stroke_er (by decide) _

theorem ren_yes (h : NmI D rows n) (hr : rows[D.turns.length]? = some now) (ha : a < 6) {c : Nat} (hc : c < 6) {b : Int} (h0 : now[a]? = some b) (hb : b ≠ 0) :
    (renP D (tt a) (tt c)).1 = 0 ∧ (a = c → NmI (renP D (tt a) (tt c)).2 rows n) ∧ (a ≠ c → NmI (renP D (tt a) (tt c)).2 (rows ++ [(now.set c b).set a 0]) n) := by
  have hno := h.now_ok hr
  obtain ⟨m, h1, h2, h3⟩ := row_some hno ha h0 hb
  obtain ⟨f, hlk, _⟩ := nlook_some h1 h2
  have e : renP D (tt a) (tt c) = (0, if tt a = tt c then { D with st := D.st + 1, off := false } else turnD (tt a) (tt c) m { D with st := D.st + 1, off := false }) := by
    unfold renP
    have : pre2 D (tt a) (tt c) = 0 := by
      unfold pre2
      rw [h.off, tt_ok a ha, tt_ok c hc, hlk]
      rfl
    rw [this, stroke_go h.fs]
    unfold renK
    have : (lo (tt a) ({ D with st := D.st + 1, off := false } : Dq).names).getD 0 = m := by
      show (lo (tt a) D.names).getD 0 = m
      rw [h1]
      rfl
    rw [this]
  rw [e]
  refine ⟨rfl, fun hac => ?_, fun hac => ?_⟩
  · subst hac
    rw [if_pos rfl]
    exact ⟨rfl, h.fs, h.fr, h.room, h.lim, h.rl, h.cnt, h.fil, h.at_, h.only⟩
  · have hne : tt a ≠ tt c := fun e => hac (tt_inj a ha c hc e)
    rw [if_neg hne]
    have hd : doT D.names (tt a, tt c, m) = setA (tt c) m (delA (tt a) D.names) := by
      unfold doT
      rw [if_neg (by rw [tt_emp]; decide)]
    refine h.push (x := (tt a, tt c, m)) rfl h.fs h.fr h.room h.lim rfl rfl (fun _ _ e => e) h.cnt h.fil ?_ ?_
    · rw [hd]
      refine ⟨by rw [List.length_set, List.length_set]; exact hno.1, fun a' ha' => ?_⟩
      rw [lo_set, lo_del]
      by_cases hx : a' = a
      · subst hx
        rw [if_neg hne, if_pos rfl]
        exact .inl ⟨rfl, List.getElem?_set_self (by rw [List.length_set, hno.1]; exact ha')⟩
      · have hx2 : tt a' ≠ tt a := fun e => hx (tt_inj a' ha' a ha e)
        rw [List.getElem?_set_ne (fun e => hx e.symm)]
        by_cases hy : a' = c
        · subst hy
          rw [if_pos rfl]
          exact .inr ⟨m, b, rfl, List.getElem?_set_self (by rw [hno.1]; exact ha'), h3, h2⟩
        · have hy2 : tt a' ≠ tt c := fun e => hy (tt_inj a' ha' c hc e)
          rw [if_neg hy2, if_neg hx2, List.getElem?_set_ne (fun e => hy e.symm)]
          exact hno.2 a' ha'
    · rw [hd]
      intro x hx
      unfold setA at hx
      rcases List.mem_append.1 hx with hx | hx
      · have h1 := mem_del (mem_del hx)
        rw [names_at] at h1
        exact h.only _ x h1
      · obtain rfl : x = (tt c, m) := List.mem_singleton.1 hx
        exact ⟨c, hc, rfl⟩

/-- Remove: of a name that is not there; of one that is. -/
theorem rem_no (h : NmI D rows n) (hr : rows[D.turns.length]? = some now) (ha : a < 6) (h0 : now[a]? = some 0) : remP D (tt a) = (6, D) := by
  unfold remP
  have : pre1 D (tt a) false 0 = 6 := by
    unfold pre1
    rw [h.off, tt_ok a ha, nlook_none (row_none (h.now_ok hr) ha h0)]
    rfl
  rw [this]
  exact stroke_er (by decide) _

theorem rem_yes (h : NmI D rows n) (hr : rows[D.turns.length]? = some now) (ha : a < 6) {b : Int} (h0 : now[a]? = some b) (hb : b ≠ 0) :
    (remP D (tt a)).1 = 0 ∧ NmI (remP D (tt a)).2 (rows ++ [now.set a 0]) n := by
  have hno := h.now_ok hr
  obtain ⟨m, h1, h2, h3⟩ := row_some hno ha h0 hb
  obtain ⟨f, hlk, _⟩ := nlook_some h1 h2
  have e : remP D (tt a) = (0, turnD (tt a) ⟨#[]⟩ 0 { D with st := D.st + 1, off := false }) := by
    unfold remP
    have : pre1 D (tt a) false 0 = 0 := by
      unfold pre1
      rw [h.off, tt_ok a ha, hlk]
      simp
    rw [this, stroke_go h.fs]
    rfl
  rw [e]
  refine ⟨rfl, ?_⟩
  have hd : doT D.names (tt a, ⟨#[]⟩, 0) = delA (tt a) D.names := by
    unfold doT
    rw [if_pos emp_emp]
  refine h.push (x := (tt a, ⟨#[]⟩, 0)) rfl h.fs h.fr h.room h.lim rfl rfl (fun _ _ e => e) h.cnt h.fil ?_ ?_
  · rw [hd]
    refine ⟨by rw [List.length_set]; exact hno.1, fun a' ha' => ?_⟩
    rw [lo_del]
    by_cases hx : a' = a
    · subst hx
      rw [if_pos rfl]
      exact .inl ⟨rfl, List.getElem?_set_self (by rw [hno.1]; exact ha')⟩
    · have hx2 : tt a' ≠ tt a := fun e => hx (tt_inj a' ha' a ha e)
      rw [if_neg hx2, List.getElem?_set_ne (fun e => hx e.symm)]
      exact hno.2 a' ha'
  · rw [hd]
    intro x hx
    have h1 := mem_del hx
    rw [names_at] at h1
    exact h.only _ x h1

/-- Behind a crash: what one row says. -/
theorem crash_row (h : NmI D rows n) (hW : WD k D) (pn : Int) (pks : List (Int × List Int)) {r : List Int} (hr : rows[firstN pn D.turns.length]? = some r) :
    RowOk (crashP pn pks D).2 (crashP pn pks D).2.names r ∧ OnlyT (crashP pn pks D).2.names ∧ (crashP pn pks D).2.off = false ∧ (crashP pn pks D).2.fr = [] := by
  have hnm : (crashP pn pks D).2.names = D.namesAt (firstN pn D.turns.length) := rfl
  rw [hnm]
  refine ⟨?_, h.only _, rfl, rfl⟩
  have ho := h.at_ _ r hr
  refine ⟨ho.1, fun a ha => (ho.2 a ha).imp id ?_⟩
  rintro ⟨m, b, h1, h2, h3, h4⟩
  refine ⟨m, b, h1, h2, h3, ?_⟩
  obtain ⟨i, f, hi, ef, e1, _⟩ := crashed_safN hW pn pks (x := (tt a, m)) (lo_mem h1)
  have hf := h.fil f (List.mem_of_getElem? hi)
  have hs : f.safe = [b] := by
    have hff : ff m D.files = some f := by
      rw [← (show f.no = m from ef)]
      exact ff_self hW.nd (List.mem_of_getElem? hi)
    unfold rowN at h4
    rw [hff] at h4
    have : f.row.1 = f.safe := by
      unfold Fi.row
      rw [hf.1]
      rfl
    rw [← this]
    exact h4
  have hcF : (crashF (pkAt pks i) f).safe = [b] := by
    unfold crashF
    have hw : wholeF (pkAt pks i).1 f = ([b], [false]) := by
      unfold wholeF
      rw [hf.1, List.take_nil, hs]
      rfl
    rw [hw]
    exact loseAll_none _ (fun j e => by rcases j with _ | j <;> simp at e) _ _
  have hcalm := calm_crash (D := D) pn pks
  rw [hcF] at e1
  have e1 : safN (crashP pn pks D).2 m = [b] := e1
  unfold safN at e1
  unfold rowN
  cases hq : ff m (crashP pn pks D).2.files with
  | none => rw [hq] at e1; cases e1
  | some g =>
    rw [hq] at e1
    have hg := hcalm.c g (ff_mem hq).1
    have : g.row.1 = g.safe := by
      unfold Fi.row
      rw [hg]
      rfl
    show g.row.1 = [b]
    rw [this]
    exact e1

end
end Go.Proofs.YtlmompdfombgeabGreat

namespace Go.Proofs.YtlmompdfombgeabGreat
open Go.RowKit Go.MapKept

set_option maxRecDepth 100000 in
/-- The law's own round. -/
theorem lround_any (v n : Int) (w : World) (hv : I64 v) (hn : 0 < n) (hn2 : n ≤ 1000000000) : Calls Tryz.prog 19 #[.int .i64 v, .int .i64 n] w fun x w' => x = .returned (.int .i64 (v % n)) ∧ w' = w := by
  obtain ⟨h0, h1⟩ := hv
  obtain ⟨e1, e2, e3⟩ := round_eq v n hn
  have hne : ¬ n = 0 := by omega
  have H1 := hid (show v.tmod n + n = v % n ∨ ¬ v.tmod n < 0 by
    have := Int.emod_nonneg v (show n ≠ 0 by omega)
    have := Int.emod_lt_of_pos v hn
    by_cases hl : v.tmod n < 0
    · left
      rw [Int.emod_eq_of_lt (by omega) (by omega)] at e1
      exact e1
    · exact .inr hl)
  have H2 := hid (show v.tmod n < 0 ∨ v.tmod n = v % n by
    by_cases hl : v.tmod n < 0
    · exact .inl hl
    · right
      rw [Int.add_emod_right, Int.emod_eq_of_lt (by omega) (by omega)] at e1
      exact e1)
  clear e1
  by_cases hl : v.tmod n < 0
  · have H3 := hid (H1.out.resolve_right (fun h => h hl))
    go_enter Tryz.func19, Tryz.ntmps19
    go_wp2
    go_ret
    refine ⟨?_, rfl⟩
    rw [← H3.out]
    rfl
  · have H3 := hid (H2.out.resolve_left hl)
    go_enter Tryz.func19, Tryz.ntmps19
    go_wp2
    go_ret
    refine ⟨?_, rfl⟩
    rw [← H3.out]
    rfl

set_option maxRecDepth 100000 in
theorem title_any (a : Nat) (ha : a < 6) (w : World) : Calls Tryz.prog 21 #[.int .i64 a] w fun x w' => x = .returned (.string (tt a)) ∧ Below w.heap.size w w' := by
  have key : ∀ c : Int, (c = 97 ∨ c = 98 ∨ c = 99 ∨ c = 100 ∨ c = 101 ∨ c = 102) → (convert 27 9 (.slice (some ⟨w.heap.size, 0, none⟩) 1 1)).run Tryz.prog (w.alloc (.cells #[.int .u8 c] 5)) = .ok (.string (mkStr [c])) (w.alloc (.cells #[.int .u8 c] 5)) := fun c _ =>
    sl_string (sl_of_owns ((show Own (w.alloc (.cells #[.int .u8 c] 5)) w.heap.size [c] from hp_new w _).owns (B := 0) (Nat.zero_le _) (by simp [maxLen])))
  have hr := fun v => lround_any v 6 w
  rcases a with _ | _ | _ | _ | _ | _ | a
  case succ.succ.succ.succ.succ.succ => omega
  all_goals
    have HR := hid hr
    clear hr
    have k0 := key 97 (by omega)
    have k1 := key 98 (by omega)
    have k2 := key 99 (by omega)
    have k3 := key 100 (by omega)
    have k4 := key 101 (by omega)
    have k5 := key 102 (by omega)
    clear key
    go_enter Tryz.func21, Tryz.ntmps21
    go_wp2_with (
      go_at_call 19
      refine (HR.out _ (by unfold I64; omega) (by omega) (by omega)).mono ?_
      rintro e w1 ⟨rfl, e1⟩
      rw [e1]
      clear e1)
    go_ret
    exact ⟨rfl, bel_al _ _⟩

theorem own_some6 {w : World} {B : Nat} {e : TypeId} {m : Nat} {v : Value} {n : Nat} {xs : List Value} (h : w.ownsRow B e m v n xs) (hn : 0 < n) : ∃ g c, v = .slice (some ⟨g, 0, none⟩) n c ∧ n ≤ c ∧ B ≤ g := by
  rcases h.2 with ⟨_, e2⟩ | ⟨g, cap, cur, e1, hb, _, hc, _⟩
  · omega
  · exact ⟨g, cap, e1, hc, hb⟩

theorem flat6 : ∀ (rows : List (List Int)) (j : Nat) (r : List Int) (c : Nat) (x : Int), rows[j]? = some r → r[c]? = some x → (∀ y ∈ rows, y.length = 6) → (rows.flatMap B8)[j * 6 + c]? = some (.int .u8 x)
  | [], j, r, c, x, h, _, _ => by cases h
  | y :: rows, 0, r, c, x, h, hx, h6 => by
    obtain rfl : y = r := Option.some.inj h
    have hc := (List.getElem?_eq_some_iff.1 hx).1
    rw [List.flatMap_cons, Nat.zero_mul, Nat.zero_add, List.getElem?_append_left (by simpa using hc)]
    simp [hx]
  | y :: rows, j + 1, r, c, x, h, hx, h6 => by
    have hy := h6 y List.mem_cons_self
    have ih := flat6 rows j r c x h hx (fun z hz => h6 z (List.mem_cons_of_mem _ hz))
    rw [List.flatMap_cons, List.getElem?_append_right (by simp [hy]; omega)]
    rw [← ih]
    congr 1
    simp [hy]
    omega

/-- The law's disk and its rows. -/
structure NmS (w0 W : World) (d : Nat) (t : Wt) (D : Dq) (v : Value) (rows : List (List Int)) : Prop where
  h : DkT W d t D
  lo : ∀ q, Dft d t D q → w0.heap.size ≤ q
  hb : Below w0.heap.size w0 W
  ow : W.ownsRow w0.heap.size 49 6 v rows.length (rows.flatMap B8)
  ap : ∀ k, v.ownBlock = some k → ¬ Dft d t D k

section
variable {w0 W W' : World} {d : Nat} {t t' : Wt} {D D' : Dq} {v : Value} {rows : List (List Int)} {nb : Nat} {now : List Int}

theorem NmS.below (h : NmS w0 W d t D v rows) (hb : Below W.heap.size W W') : NmS w0 W' d t D v rows :=
  ⟨h.h.below hb, h.lo, bel_on h.hb hb, ownsRow_kept h.ow (Kept.ofBelow hb) (fun _ _ h => h), h.ap⟩

theorem NmS.goes (h : NmS w0 W d t D v rows) (g : Goes d W t D W' t' D') : NmS w0 W' d t' D' v rows := by
  refine ⟨g.dk, fun q e => ?_, h.hb.trans (g.kp.below h.hb.size (fun k hk e => by have := h.lo k e; omega)), ownsRow_kept h.ow g.kp (fun k e => h.ap k e), fun k e e2 => ?_⟩
  · rcases g.ft q e with e | e
    · exact h.lo q e
    · exact Nat.le_trans h.hb.size e
  · rcases g.ft k e2 with e2 | e2
    · exact h.ap k e e2
    · have := (h.ow.lt k e).2
      omega

theorem NmS.app (h : NmS w0 W d t D v rows) {v' : Value} {r : List Int} {W1 : World} (hb : Below W.heap.size W W1) (ho : W'.ownsRow w0.heap.size 49 6 v' (rows.length + 1) (rows.flatMap B8 ++ B8 r)) (hg : W1.grownBy W' v.ownBlock)
    (hat : v'.ownBlock = v.ownBlock ∨ v'.ownBlock = some W1.heap.size) : NmS w0 W' d t D v' (rows ++ [r]) := by
  have h1 := h.below hb
  have k : Kept (fun k => v.ownBlock = some k) W1 W' := (Kept.refl _ W1).grown hg (fun _ _ e => e)
  refine ⟨h1.h.kept k (fun q e e2 => h1.ap q e2 e), h.lo, h1.hb.trans (k.below h1.hb.size (fun q hq e => by have := (h1.ow.lt q e).1; omega)), ?_, fun q e e2 => ?_⟩
  · rw [List.length_append, List.flatMap_append]
    simpa using ho
  · rcases hat with hat | hat
    · rw [hat] at e
      exact h1.ap q e e2
    · rw [hat] at e
      have := Option.some.inj e
      have := h1.h.lt q e2
      omega

/-- And the row that is made now. -/
structure NmT (w0 W : World) (d : Nat) (t : Wt) (D : Dq) (v : Value) (rows : List (List Int)) (nb : Nat) (now : List Int) : Prop where
  s : NmS w0 W d t D v rows
  bk : W.heap[nb]? = some (.cells (B8 now).toArray 49 (0, 0))
  na : ¬ Dft d t D nb
  nv : v.ownBlock ≠ some nb
  nlo : w0.heap.size ≤ nb

theorem nmT_start (h : NmS w0 W d t D v rows) (now : List Int) : NmT w0 (W.alloc (.cells (B8 now).toArray 49)) d t D v rows W.heap.size now :=
  ⟨h.below (bel_al _ _), hp_new W _, fun e => by have := h.h.lt _ e; omega, fun e => by have := (h.ow.lt _ e).2; omega, h.hb.size⟩

theorem NmT.below (h : NmT w0 W d t D v rows nb now) (hb : Below W.heap.size W W') : NmT w0 W' d t D v rows nb now :=
  ⟨h.s.below hb, (hb.block _ (hp_lt h.bk)).trans h.bk, h.na, h.nv, h.nlo⟩

theorem NmT.goes (h : NmT w0 W d t D v rows nb now) (g : Goes d W t D W' t' D') : NmT w0 W' d t' D' v rows nb now :=
  ⟨h.s.goes g, hp_kept h.bk g.kp h.na, fun e => (g.ft _ e).elim h.na (fun e => by have := hp_lt h.bk; omega), h.nv, h.nlo⟩

theorem NmT.set (h : NmT w0 W d t D v rows nb now) (a : Nat) (x : Int) : NmT w0 (W.setCell ⟨nb, a, none⟩ (.int .u8 x)) d t D v rows nb (now.set a x) := by
  have k := (Kept.refl (fun k => k = nb) W).setCell (p := ⟨nb, a, none⟩) (fun _ => rfl) (.int .u8 x)
  refine ⟨⟨h.s.h.kept k (fun q e e2 => h.na (e2 ▸ e)), h.s.lo, h.s.hb.trans (k.below h.s.hb.size (fun q hq e => by have := h.nlo; omega)), ownsRow_kept h.s.ow k (fun q e e2 => h.nv (e2 ▸ e)), h.s.ap⟩, ?_, h.na, h.nv, h.nlo⟩
  have hb := h.bk
  simp [World.setCell, Array.getElem?_modify, hb, List.map_set]

theorem NmT.cell (h : NmT w0 W d t D v rows nb now) {a : Nat} {x : Int} (hx : now[a]? = some x) : W.cell? ⟨nb, a, none⟩ = some (.int .u8 x) := by
  rw [cell_of_row W _ _ _ _ _ h.bk]
  simp [hx]

theorem NmT.free (h : NmT w0 W d t D v rows nb now) (a : Nat) : W.frozen? ⟨nb, a, none⟩ = false := by simp [World.frozen?, h.bk]

/-- The cells of one row. -/
theorem NmS.rowAt (h : NmS w0 W d t D v rows) {j : Nat} {r : List Int} (hr : rows[j]? = some r) (h6 : ∀ x ∈ rows, x.length = 6) : ∃ g cap, v = .slice (some ⟨g, 0, none⟩) rows.length cap ∧ ∀ c x, r[c]? = some x → W.cell? ⟨g, j * 6 + c, none⟩ = some (.int .u8 x) := by
  have hj := (List.getElem?_eq_some_iff.1 hr).1
  obtain ⟨g, cap, e1, _, _⟩ := own_some6 h.ow (by omega)
  refine ⟨g, cap, e1, fun c x hx => ?_⟩
  have h1 := h.ow
  rw [e1] at h1
  have := h1.cells (g := g) rfl (j * 6 + c) (.int .u8 x) (flat6 rows j r c x hr hx h6)
  rw [add_lit, Nat.zero_add] at this
  exact this

end

end Go.Proofs.YtlmompdfombgeabGreat

namespace Go.Proofs.YtlmompdfombgeabGreat
open Go.RowKit Go.MapKept

/-- The names below j that a row has. -/
def upto (r : List Int) (j : Nat) : List Nat := (List.range j).filter fun a => decide (r[a]? ≠ some 0)

theorem upto_succ (r : List Int) (j : Nat) : upto r (j + 1) = upto r j ++ (if r[j]? ≠ some 0 then [j] else []) := by
  unfold upto
  rw [List.range_succ, List.filter_append]
  congr 1
  by_cases h : r[j]? = some 0
  · simp [h]
  · simp [h]

theorem upto_at (r : List Int) (j : Nat) (h : r[j]? ≠ some 0) : ∀ n, j < n → (upto r n)[(upto r j).length]? = some j := by
  intro n
  induction n with
  | zero => intro h; omega
  | succ n ih =>
    intro hn
    rw [upto_succ]
    by_cases hj : j = n
    · subst hj
      rw [if_pos h, List.getElem?_append_right (Nat.le_refl _), Nat.sub_self]
      rfl
    · have := ih (by omega)
      rw [List.getElem?_append_left (List.getElem?_eq_some_iff.1 this).1]
      exact this

theorem skN_rows {D : Dq} {l : List (ByteArray × Int)} {r : List Int} (h : RowOk D l r) (ho : OnlyT l) (hk : (l.map Prod.fst).Nodup) : skN l = (upto r 6).map tt := by
  refine List.Perm.eq_of_pairwise (le := fun a b : ByteArray => decide (a.data.toList ≤ b.data.toList) = true) ?_ ?_ ?_ ?_
  · intro a b _ _ h1 h2
    simp only [decide_eq_true_eq] at h1 h2
    have h3 := List.le_antisymm h1 h2
    cases a
    cases b
    congr 1
    exact Array.toList_inj.1 h3
  · unfold skN
    rw [List.pairwise_map]
    have ht : ∀ a b c : List UInt8, decide (a ≤ b) = true → decide (b ≤ c) = true → decide (a ≤ c) = true := fun a b c h1 h2 => by
      simp at h1 h2 ⊢
      exact List.le_trans h1 h2
    have hto : ∀ a b : List UInt8, (decide (a ≤ b) || decide (b ≤ a)) = true := fun a b => by
      simp
      exact List.le_total a b
    exact (List.pairwise_mergeSort ht hto _ : (sk (encN l)).Pairwise (fun x y => decide (x ≤ y) = true))
  · rw [List.pairwise_map]
    exact List.Pairwise.filter _ (by decide)
  · refine (skN_perm l).trans ((List.perm_ext_iff_of_nodup hk ?_).2 fun x => ?_)
    · unfold List.Nodup
      rw [List.pairwise_map]
      exact List.Pairwise.filter _ (by decide)
    · constructor
      · intro hx
        obtain ⟨y, hy, rfl⟩ := List.mem_map.1 hx
        obtain ⟨a, ha, e⟩ := ho y hy
        refine List.mem_map.2 ⟨a, List.mem_filter.2 ⟨List.mem_range.2 ha, ?_⟩, e.symm⟩
        have hl := lo_of_mem hk hy
        rw [e] at hl
        rcases h.2 a ha with ⟨h1, _⟩ | ⟨m, b, _, h2, h3, _⟩
        · rw [hl] at h1
          cases h1
        · rw [h2]
          simp
          omega
      · intro hx
        obtain ⟨a, ha, rfl⟩ := List.mem_map.1 hx
        obtain ⟨ha1, ha2⟩ := List.mem_filter.1 ha
        have ha6 := List.mem_range.1 ha1
        rcases h.2 a ha6 with ⟨_, h1⟩ | ⟨m, b, h1, _⟩
        · rw [h1] at ha2
          simp at ha2
        · exact List.mem_map.2 ⟨(tt a, m), lo_mem h1, rfl⟩

/-- What Read answers of a name of the row. -/
theorem read_row {E : Dq} {r : List Int} {j : Nat} {b : Int} (h : RowOk E E.names r) (hoff : E.off = false) (hfr : E.fr = []) (hj : j < 6) (hb : r[j]? = some b) (h0 : b ≠ 0) : readP E (tt j) = ([b], 0, { E with rd := E.rd + 1, off := false }) := by
  obtain ⟨m, h1, h2, _⟩ := row_some h hj hb h0
  obtain ⟨f, h3, h4⟩ := nlook_some h1 h2
  have hp : pre1 E (tt j) false 0 = 0 := by
    unfold pre1
    rw [hoff, tt_ok j hj, h3]
    simp
  unfold readP
  rw [if_neg (by simpa using hp), if_neg (by rw [hfr]; simp [fo, fe]), h3]
  unfold rowN at h2
  rw [h4] at h2
  have h5 : f.row.1 = [b] := h2
  have h6 : cntR E = { E with rd := E.rd + 1, off := false } := by
    unfold cntR
    rw [hfr]
    simp [fo]
  rw [h6]
  show (f.row.1, _, _) = _
  rw [h5]

end Go.Proofs.YtlmompdfombgeabGreat
