import Derived.Test.YthcoigbkdbkojabGreatK27
import Derived.Test.YthcoigbkdbkojabGreatK30
import Derived.Deep.CutBlock
namespace Go.Proofs.YthcoigbkdbkojabGreat
open Go.RowKit Go.MapKept
open V (kl)

/-- ExecSums' procedure. -/
abbrev xsS (n : Int) : List Ins := [⟨13, 0, 1, 1, n, 0, 0, emp⟩, ⟨15, 0, 0, 0, 0, 0, 0, emp⟩, ⟨14, 2, 1, 0, 0, 0, 0, emp⟩, ⟨15, 2, 0, 0, 0, 0, 0, emp⟩, ⟨14, 3, 2, 0, 0, 0, 0, emp⟩, ⟨15, 3, 0, 0, 0, 0, 0, emp⟩, ⟨12, 0, 1, 1, n, 0, 0, emp⟩, ⟨15, 0, 0, 0, 0, 0, 0, emp⟩]
abbrev nmS : ByteArray := ⟨#[115, 117, 109]⟩

theorem chkS0 : ∀ m : Fin 64, procChk nmS 0 (xsS ((m.val : Int) + 1)) = (0, 0) := by decide +kernel
theorem chkS {n : Int} (h1 : 1 ≤ n) (h2 : n ≤ 64) : procChk nmS 0 (xsS n) = (0, 0) := by
  have h := chkS0 ⟨(n - 1).toNat, by omega⟩
  have e : (((⟨(n - 1).toNat, by omega⟩ : Fin 64).val : Nat) : Int) + 1 = n := by
    show (((n - 1).toNat : Nat) : Int) + 1 = n
    omega
  rw [e] at h
  exact h

/-- The first key. -/
def hdK : KV → ByteArray
  | [] => emp
  | x :: _ => x.1
def hdV : KV → Vd
  | [] => z0
  | x :: _ => ⟨2, 0, x.1⟩

theorem kl_of_ne {k : ByteArray} (h : k ≠ emp) : kl emp k = true := by
  cases e : kl emp k
  · exact absurd (V.kl_tri (kl_emp k) e) h
  · rfl

theorem lkp_of_mem : ∀ {T : KV}, Asc T → ∀ {x}, x ∈ T → lkp x.1 T = some x.2
  | [], _, _, h => nomatch h
  | y :: T, hT, x, h => by
    obtain ⟨hy, hT'⟩ := List.pairwise_cons.1 hT
    unfold lkp
    rcases List.mem_cons.1 h with rfl | h
    · rw [if_pos rfl]
    · rw [if_neg (V.kl_ne (hy x h)), lkp_of_mem hT' h]

theorem seen_of_mem {T : KV} (hT : Asc T) {x : ByteArray × Vd} (h : x ∈ T) : seenF T [] x.1 = x.2 := by
  unfold seenF
  rw [lkp_of_mem hT h]
  rfl

theorem vis_mem {T : KV} (_hT : VOk T) {k : ByteArray} (h : vis T [] k) : ∃ x ∈ T, x.1 = k := by
  unfold vis seenF at h
  have e0 : lkp k ([] : KV) = none := rfl
  rw [e0] at h
  dsimp only at h
  cases e : lkp k T with
  | none => rw [e] at h; exact absurd rfl h
  | some v => exact ⟨_, lkp_mem e, rfl⟩

/-- The next key of a state in which nothing was written. -/
theorem abv_suf {T P R : KV} (hT : VOk T) (e : T = P ++ R) {text : ByteArray} (h1 : ∀ z ∈ P, kl text z.1 = false) (h2 : ∀ z ∈ R, kl text z.1 = true) : abv T [] emp text = hdK R := by
  refine abv_eq ?_
  have hin : ∀ k, inB text emp k → vis T [] k → ∃ x ∈ R, x.1 = k := by
    intro k hk hv
    obtain ⟨x, hx, rfl⟩ := vis_mem hT hv
    rw [e] at hx
    rcases List.mem_append.1 hx with h | h
    · have := hk.1
      rw [h1 x h] at this
      cases this
    · exact ⟨x, h, rfl⟩
  cases R with
  | nil => exact ⟨.inl rfl, fun k hk hv => by obtain ⟨x, hx, -⟩ := hin k hk hv; exact nomatch hx⟩
  | cons y R =>
    have hy : y ∈ T := by rw [e]; exact List.mem_append_right _ List.mem_cons_self
    refine ⟨.inr ⟨⟨h2 y List.mem_cons_self, .inl rfl⟩, ?_⟩, fun k hk hv => ⟨isKey_ne (hT.key y hy), ?_⟩⟩
    · unfold vis
      show (seenF T [] y.1).k ≠ 0
      rw [seen_of_mem hT.asc hy]
      exact hT.has y hy
    · obtain ⟨x, hx, rfl⟩ := hin k hk hv
      show kl x.1 y.1 = false
      rcases List.mem_cons.1 hx with rfl | hx
      · exact V.kl_irrefl _
      · have ha := hT.asc
        rw [e] at ha
        exact V.kl_asymm ((List.pairwise_cons.1 (List.pairwise_append.1 ha).2.1).1 x hx)

theorem abv_first {T : KV} (hT : VOk T) : abv T [] emp emp = hdK T :=
  abv_suf hT (P := []) rfl (fun _ h => nomatch h) (fun z hz => kl_of_ne (isKey_ne (hT.key z hz)))

theorem abv_next {T P R : KV} {x : ByteArray × Vd} (hT : VOk T) (e : T = P ++ x :: R) : abv T [] emp x.1 = hdK R := by
  have ha := hT.asc
  rw [e] at ha
  have h3 := List.pairwise_append.1 ha
  refine abv_suf hT (P := P ++ [x]) (R := R) (by rw [e]; simp) ?_ (List.pairwise_cons.1 h3.2.1).1
  intro z hz
  rcases List.mem_append.1 hz with h | h
  · exact V.kl_asymm (h3.2.2 z h x List.mem_cons_self)
  · rw [List.mem_singleton.1 h]; exact V.kl_irrefl _

/-- What is gone through, by the list itself. -/
def foldT {α : Type} (f : α → ByteArray → α × Int) : Nat → KV → α → α × Int × ByteArray
  | 0, _, a => (a, 0, emp)
  | _ + 1, [], a => (a, 0, emp)
  | m + 1, x :: R, a => if m = 0 ∨ (f a x.1).2 ≠ 0 then ((f a x.1).1, (f a x.1).2, x.1) else foldT f m R (f a x.1).1

theorem thr_fold {α : Type} {T : KV} (hT : VOk T) (f : α → ByteArray → α × Int) : ∀ (m : Nat) (P R : KV) (a : α), T = P ++ R → thr (abv T [] emp) f emp m (hdK R) a = foldT f m R a
  | 0, _, R, a, _ => by cases R <;> rfl
  | m + 1, P, [], a, _ => by
    show thr (abv T [] emp) f emp (m + 1) emp a = _
    rw [thr_end]
    rfl
  | m + 1, P, x :: R, a, e => by
    have hx : x ∈ T := by rw [e]; exact List.mem_append_right _ List.mem_cons_self
    unfold thr foldT
    rw [if_neg (show ¬ hdK (x :: R) = emp from isKey_ne (hT.key x hx))]
    show (if m = 0 ∨ (f a x.1).2 ≠ 0 then ((f a x.1).1, (f a x.1).2, x.1) else thr (abv T [] emp) f emp m (abv T [] emp x.1) (f a x.1).1) = _
    rw [abv_next hT e, thr_fold hT f m (P ++ [x]) R _ (by rw [e]; simp)]

theorem fold_cnt : ∀ (m : Nat) (R : KV) (i : Int), 0 ≤ i → i + m ≤ 1000 → (foldT cntF m R ⟨1, i, emp⟩).1 = ⟨1, i + min m R.length, emp⟩ ∧ (foldT cntF m R ⟨1, i, emp⟩).2.1 = 0
  | 0, R, i, _, _ => by unfold foldT; simp
  | m + 1, [], i, _, _ => by unfold foldT; simp
  | m + 1, x :: R, i, h0, h1 => by
    have hc : cntF ⟨1, i, emp⟩ x.1 = (⟨1, i + 1, emp⟩, 0) := by
      unfold cntF
      rw [show wrap64 (i + 1) = i + 1 by unfold wrap64; omega]
    unfold foldT
    rw [hc]
    by_cases e : m = 0
    · subst e
      rw [if_pos (.inl rfl)]
      refine ⟨?_, rfl⟩
      show (⟨1, i + 1, emp⟩ : Vd) = ⟨1, i + ((min (0 + 1) (R.length + 1) : Nat) : Int), emp⟩
      rw [show min (0 + 1) (R.length + 1) = 1 by omega]
      rfl
    · rw [if_neg (by simp [e])]
      obtain ⟨h2, h3⟩ := fold_cnt m R (i + 1) (by omega) (by omega)
      refine ⟨?_, h3⟩
      dsimp only
      rw [h2]
      congr 1
      simp only [List.length_cons]
      omega

/-- The sum of the first ones, and how it ends. -/
def sumS : Nat → KV → Int → Int × Int
  | 0, _, a => (a, 0)
  | _ + 1, [], a => (a, 0)
  | m + 1, x :: R, a => if isI x.2.k x.2.t = true then (if inR (a + x.2.i) = true then sumS m R (a + x.2.i) else (0, 15)) else (0, 14)

theorem fold_sum {T : KV} (hT : Asc T) : ∀ (m : Nat) (R : KV) (a : Int), (∀ x ∈ R, x ∈ T) → (foldT (sumF T []) m R ⟨1, a, emp⟩).2.1 = (sumS m R a).2 ∧ ((sumS m R a).2 = 0 → (foldT (sumF T []) m R ⟨1, a, emp⟩).1 = ⟨1, (sumS m R a).1, emp⟩)
  | 0, R, a, _ => ⟨rfl, fun _ => rfl⟩
  | m + 1, [], a, _ => ⟨rfl, fun _ => rfl⟩
  | m + 1, x :: R, a, h => by
    have hs : sumF T [] ⟨1, a, emp⟩ x.1 = rckP true (isI x.2.k x.2.t) (a + x.2.i) := by
      unfold sumF
      rw [seen_of_mem hT (h x List.mem_cons_self)]
      congr 1
    unfold foldT sumS
    rw [hs]
    unfold rckP
    cases e1 : isI x.2.k x.2.t
    · simp
    · cases e2 : inR (a + x.2.i)
      · simp
      · simp only [Bool.and_self, if_true]
        obtain ⟨h1, h2⟩ := fold_sum hT m R (a + x.2.i) (fun y hy => h y (List.mem_cons_of_mem _ hy))
        by_cases e : m = 0
        · subst e
          rw [if_pos (.inl rfl)]
          exact ⟨rfl, fun _ => rfl⟩
        · rw [if_neg (by simp [e])]
          exact ⟨h1, h2⟩

theorem sumS_err : ∀ (m : Nat) (R : KV) (a : Int), (sumS m R a).2 = 0 ∨ (sumS m R a).2 = 14 ∨ (sumS m R a).2 = 15
  | 0, _, _ => .inl rfl
  | _ + 1, [], _ => .inl rfl
  | m + 1, x :: R, a => by
    unfold sumS
    split
    · split
      · exact sumS_err m R _
      · exact .inr (.inr rfl)
    · exact .inr (.inl rfl)

theorem runQ_go {sq : Nat → Ins → Qm → Qr} {xs : List Ins} {n k : Nat} {q q' : Qm} {x : Ins} (hx : xs[k]? = some x) (ho : x.op ≠ 16) (hs : sq k x q = (q', (k : Int), 0)) : runQ sq xs (n + 1) k q = runQ sq xs n (k + 1) q' := by
  conv => lhs; unfold runQ
  rw [hx]
  dsimp only
  rw [if_neg ho, hs, if_pos rfl, Int.toNat_natCast]
theorem runQ_no {sq : Nat → Ins → Qm → Qr} {xs : List Ins} {n k : Nat} {q q' : Qm} {x : Ins} {p st : Int} (hx : xs[k]? = some x) (ho : x.op ≠ 16) (hs : sq k x q = (q', p, st)) (h : st ≠ 0) : runQ sq xs (n + 1) k q = (q', p, st) := by
  conv => lhs; unfold runQ
  rw [hx]
  dsimp only
  rw [if_neg ho, hs, if_neg h]
theorem runQ_out {sq : Nat → Ins → Qm → Qr} {xs : List Ins} {n k : Nat} {q : Qm} (hx : xs[k]? = none) : runQ sq xs (n + 1) k q = (q, 0, 1) := by
  conv => lhs; unfold runQ
  rw [hx]

theorem bK0 : bKey z0 = emp := rfl
theorem bE0 : bErr z0 = 0 := rfl
theorem bE_hd {R : KV} (h : ∀ x ∈ R, isKeyB x.1 = true) : bErr (hdV R) = 0 := by
  cases R with
  | nil => rfl
  | cons x R =>
    have hk := h x List.mem_cons_self
    have hs := (isKey_size hk).2
    unfold bErr hdV kErr
    simp [hk]
    omega
theorem bK_hd {R : KV} : bKey (hdV R) = hdK R := by cases R <;> rfl

theorem qthr0 {q : Qm} {pc : Int} {x : Ins} {R : Vd × Int × ByteArray} (hb : q.rg x.b = z0) (hc : q.rg x.c = z0) : qThr q pc x R = if R.2.1 = 0 then ((q.look emp R.2.2).put x.a R.1, pc, 0) else (q.look emp R.2.2, pc, stE R.2.1) := by
  unfold qThr
  rw [hb, hc, if_pos bE0, if_pos bE0, if_neg (by unfold qNone; rw [hc]; exact fun h => h.1 rfl)]
  rfl

theorem nextV_of {T R : KV} (_hT : VOk T) {v : Vd} (h : abv T [] emp (bKey v) = hdK R) (hR : ∀ x ∈ R, isKeyB x.1 = true) : nextV T [] v = hdV R := by
  unfold nextV
  rw [h]
  cases R with
  | nil => exact if_pos rfl
  | cons x R => exact if_neg (isKey_ne (hR x List.mem_cons_self))

section
variable {dig : Int → List Int} {T : KV}

theorem st_tell (q : Qm) (a : Int) (k : Nat) (h : q.td.length < 64) : ∃ q' : Qm, sqf dig T [] k ⟨15, a, 0, 0, 0, 0, 0, emp⟩ q = (q', (k : Int), 0) ∧ q'.rg = q.rg ∧ q'.l = q.l ∧ q'.td = q.td ++ [q.rg a] := by
  refine ⟨{ q with td := q.td ++ [q.rg a] }, ?_, rfl, rfl, rfl⟩
  show (if q.td.length = 64 then (q, (k : Int), 5) else ({ q with td := q.td ++ [q.rg a] }, (k : Int), 0) : Qr) = _
  rw [if_neg (by omega)]

theorem st_next (q : Qm) (a b : Int) (k : Nat) (hl : q.l = []) (hb : bErr (q.rg b) = 0) : ∃ q' : Qm, sqf dig T [] k ⟨14, a, b, 0, 0, 0, 0, emp⟩ q = (q', (k : Int), 0) ∧ q'.rg = (fun i => if i = a then nextV T [] (q.rg b) else q.rg i) ∧ q'.l = [] ∧ q'.td = q.td := by
  refine ⟨(q.look (nfrom (bKey (q.rg b))) (abv T q.l emp (bKey (q.rg b)))).put a (nextV T q.l (q.rg b)), ?_, ?_, hl, rfl⟩
  · show stepQ dig T [] k ⟨14, a, b, 0, 0, 0, 0, emp⟩ q 14 = _
    rw [stepQ_14, if_pos hb]
  · rw [hl]; rfl

theorem st_thr (q : Qm) (a n : Int) (k : Nat) (R : Vd × Int × ByteArray) (o : Int) (h1 : q.rg 1 = z0) : ∃ q' : Qm, qThr q k ⟨o, a, 1, 1, n, 0, 0, emp⟩ R = (if R.2.1 = 0 then (q', (k : Int), 0) else (q', (k : Int), stE R.2.1)) ∧ (R.2.1 = 0 → q'.rg = (fun i => if i = a then R.1 else q.rg i)) ∧ q'.l = q.l ∧ q'.td = q.td := by
  by_cases h : R.2.1 = 0
  · refine ⟨(q.look emp R.2.2).put a R.1, ?_, fun _ => rfl, rfl, rfl⟩
    rw [qthr0 h1 h1, if_pos h, if_pos h]
  · refine ⟨q.look emp R.2.2, ?_, fun e => absurd e h, rfl, rfl⟩
    rw [qthr0 h1 h1, if_neg h, if_neg h]

theorem fkey0 {sv : Vd} {nx : ByteArray → ByteArray} : fkey emp sv nx = nx emp := by
  unfold fkey
  rw [if_neg (fun h => h.1 rfl)]

theorem st_count (hT : VOk T) (q : Qm) (n : Int) (k : Nat) (hl : q.l = []) (h1 : q.rg 1 = z0) (n1 : 1 ≤ n) (n2 : n ≤ 64) : ∃ q' : Qm, sqf dig T [] k ⟨13, 0, 1, 1, n, 0, 0, emp⟩ q = (q', (k : Int), 0) ∧ q'.rg = (fun i => if i = 0 then ⟨1, ((min n.toNat T.length : Nat) : Int), emp⟩ else q.rg i) ∧ q'.l = [] ∧ q'.td = q.td := by
  have hR : countR T q.l ⟨13, 0, 1, 1, n, 0, 0, emp⟩ (q.rg 1) (q.rg 1) = foldT cntF n.toNat T ⟨1, 0, emp⟩ := by
    unfold countR
    rw [h1, hl, bK0, fkey0, abv_first hT]
    exact thr_fold hT _ n.toNat [] T _ rfl
  obtain ⟨e1, e2⟩ := fold_cnt n.toNat T 0 (Int.le_refl _) (by omega)
  obtain ⟨q', h2, h3, h4, h5⟩ := st_thr q 0 n k (countR T q.l ⟨13, 0, 1, 1, n, 0, 0, emp⟩ (q.rg 1) (q.rg 1)) 13 h1
  rw [hR] at h2 h3
  rw [if_pos e2] at h2
  refine ⟨q', ?_, ?_, h4.trans hl, h5⟩
  · show qThr q k ⟨13, 0, 1, 1, n, 0, 0, emp⟩ (countR T q.l ⟨13, 0, 1, 1, n, 0, 0, emp⟩ (q.rg 1) (q.rg 1)) = _
    rw [hR]
    exact h2
  · rw [h3 e2, e1, Int.zero_add]

theorem st_sum (hT : VOk T) (q : Qm) (n : Int) (k : Nat) (hl : q.l = []) (h1 : q.rg 1 = z0) : ∃ q' : Qm, sqf dig T [] k ⟨12, 0, 1, 1, n, 0, 0, emp⟩ q = (if (sumS n.toNat T 0).2 = 0 then (q', (k : Int), 0) else (q', (k : Int), stE (sumS n.toNat T 0).2)) ∧ ((sumS n.toNat T 0).2 = 0 → q'.rg = (fun i => if i = 0 then ⟨1, (sumS n.toNat T 0).1, emp⟩ else q.rg i)) ∧ q'.l = [] ∧ q'.td = q.td := by
  have hR : sumR T q.l ⟨12, 0, 1, 1, n, 0, 0, emp⟩ (q.rg 1) (q.rg 1) = foldT (sumF T []) n.toNat T ⟨1, 0, emp⟩ := by
    unfold sumR
    rw [h1, hl, bK0, fkey0, abv_first hT]
    exact thr_fold hT _ n.toNat [] T _ rfl
  obtain ⟨e1, e2⟩ := fold_sum hT.asc n.toNat T 0 (fun _ h => h)
  obtain ⟨q', h2, h3, h4, h5⟩ := st_thr q 0 n k (sumR T q.l ⟨12, 0, 1, 1, n, 0, 0, emp⟩ (q.rg 1) (q.rg 1)) 12 h1
  rw [hR, e1] at h2 h3
  refine ⟨q', ?_, ?_, h4.trans hl, h5⟩
  · show qThr q k ⟨12, 0, 1, 1, n, 0, 0, emp⟩ (sumR T q.l ⟨12, 0, 1, 1, n, 0, 0, emp⟩ (q.rg 1) (q.rg 1)) = _
    rw [hR]
    exact h2
  · intro h
    rw [h3 h, e2 h]

theorem qTd_done {q : Qm} : qTd (q, 0, 1) = q.td := if_pos rfl
theorem qWr_done {q : Qm} (h : q.l = []) : qWr (q, 0, 1) = [] := by
  show (if (1 : Int) = 1 then dnL (kvV q.l) else []) = []
  rw [if_pos rfl, h]
  simp [dnL, kvV, sk]

/-- What ExecSums' call comes to. -/
theorem ef_sum (hT : VOk T) (hR : ∀ x ∈ T, isKeyB x.1 = true) {n : Int} (n1 : 1 ≤ n) (n2 : n ≤ 64) : ∃ lk, efR dig T nmS 0 (xsS n) [] = if (sumS n.toNat T 0).2 = 0 then ⟨1, 0, [⟨1, ((min n.toNat T.length : Nat) : Int), emp⟩, hdV T, hdV (T.drop 1), ⟨1, (sumS n.toNat T 0).1, emp⟩], [], lk⟩ else ⟨stE (sumS n.toNat T 0).2, 6, [], [], lk⟩ := by
  have hd1 : ∀ x ∈ T.drop 1, isKeyB x.1 = true := fun x hx => hR x (List.mem_of_mem_drop hx)
  have ef : efR dig T nmS 0 (xsS n) [] = ⟨(runQ (sqf dig T []) (xsS n) 9 0 q0).2.2, (runQ (sqf dig T []) (xsS n) 9 0 q0).2.1, qTd (runQ (sqf dig T []) (xsS n) 9 0 q0), qWr (runQ (sqf dig T []) (xsS n) 9 0 q0), (runQ (sqf dig T []) (xsS n) 9 0 q0).1.lk⟩ := by
    unfold efR
    rw [if_neg (by rw [chkS n1 n2]; simp), if_neg (fun ⟨x, hx, _⟩ => nomatch hx), if_neg (by simp)]
    rfl
  obtain ⟨q1, s0, g1, l1, t1⟩ := st_count (dig := dig) hT q0 n 0 rfl rfl n1 n2
  obtain ⟨q2, s1, g2, l2, t2⟩ := st_tell (dig := dig) (T := T) q1 0 1 (by rw [t1]; show 0 < 64; decide)
  obtain ⟨q3, s2, g3, l3, t3⟩ := st_next (dig := dig) (T := T) q2 2 1 2 (by rw [l2, l1]) (by rw [g2, g1]; rfl)
  have v3 : nextV T [] (q2.rg 1) = hdV T := by
    rw [g2, g1]
    exact nextV_of hT (abv_first hT) hR
  obtain ⟨q4, s3, g4, l4, t4⟩ := st_tell (dig := dig) (T := T) q3 2 3 (by rw [t3, t2, t1]; show 1 < 64; decide)
  have r42 : q4.rg 2 = hdV T := by rw [g4, g3]; exact v3
  obtain ⟨q5, s4, g5, l5, t5⟩ := st_next (dig := dig) (T := T) q4 3 2 4 (by rw [l4, l3]) (by rw [r42]; exact bE_hd hR)
  have v5 : nextV T [] (q4.rg 2) = hdV (T.drop 1) := by
    rw [r42]
    refine nextV_of hT ?_ hd1
    rw [bK_hd]
    cases T with
    | nil => exact abv_first hT
    | cons x R => exact abv_next hT (P := []) rfl
  obtain ⟨q6, s5, g6, l6, t6⟩ := st_tell (dig := dig) (T := T) q5 3 5 (by rw [t5, t4, t3, t2, t1]; show 2 < 64; decide)
  obtain ⟨q7, s6, g7, l7, t7⟩ := st_sum (dig := dig) hT q6 n 6 (by rw [l6, l5]) (by simp [g6, g5, g4, g3, g2, g1, q0, z0])
  have a1 : q1.rg 0 = ⟨1, ((min n.toNat T.length : Nat) : Int), emp⟩ := by rw [g1]; rfl
  have a2 : q3.rg 2 = hdV T := by rw [g3]; exact v3
  have a3 : q5.rg 3 = hdV (T.drop 1) := by rw [g5]; exact v5
  have htd : q6.td = [⟨1, ((min n.toNat T.length : Nat) : Int), emp⟩, hdV T, hdV (T.drop 1)] := by
    rw [t6, t5, t4, t3, t2, t1, a1, a2, a3]
    rfl
  have hrun : ∀ m, runQ (sqf dig T []) (xsS n) (m + 6) 0 q0 = runQ (sqf dig T []) (xsS n) m 6 q6 := by
    intro m
    rw [runQ_go (k := 0) (n := m + 5) rfl (show (13 : Int) ≠ 16 by decide) s0, runQ_go (k := 1) (n := m + 4) rfl (by decide) s1, runQ_go (k := 2) (n := m + 3) rfl (by decide) s2, runQ_go (k := 3) (n := m + 2) rfl (by decide) s3, runQ_go (k := 4) (n := m + 1) rfl (by decide) s4, runQ_go (k := 5) (n := m) rfl (by decide) s5]
  rw [ef, hrun 3]
  by_cases h0 : (sumS n.toNat T 0).2 = 0
  · rw [if_pos h0] at s6
    obtain ⟨q8, s7, g8, l8, t8⟩ := st_tell (dig := dig) (T := T) q7 0 7 (by rw [t7, htd]; show 3 < 64; decide)
    rw [runQ_go (k := 6) (n := 2) rfl (show (12 : Int) ≠ 16 by decide) s6, runQ_go (k := 7) (n := 1) rfl (by decide) s7, runQ_out rfl, qTd_done, qWr_done (by rw [l8, l7])]
    refine ⟨q8.lk, ?_⟩
    rw [if_pos h0]
    rw [t8, t7, htd, g7 h0]
    rfl
  · rw [if_neg h0] at s6
    have hst : stE (sumS n.toNat T 0).2 ≠ 0 := by
      rcases sumS_err n.toNat T 0 with h | h | h
      · exact absurd h h0
      · rw [h]; decide
      · rw [h]; decide
    have hs1 : stE (sumS n.toNat T 0).2 ≠ 1 := by
      rcases sumS_err n.toNat T 0 with h | h | h
      · exact absurd h h0
      · rw [h]; decide
      · rw [h]; decide
    rw [runQ_no (k := 6) (n := 2) rfl (show (12 : Int) ≠ 16 by decide) s6 hst]
    refine ⟨q7.lk, ?_⟩
    rw [if_neg h0]
    rw [show qTd (q7, ((6 : Nat) : Int), stE (sumS n.toNat T 0).2) = [] from if_neg hs1, show qWr (q7, ((6 : Nat) : Int), stE (sumS n.toNat T 0).2) = [] from if_neg hs1]
    rfl

end

end Go.Proofs.YthcoigbkdbkojabGreat

namespace Go.Proofs.YthcoigbkdbkojabGreat
open Go.RowKit Go.MapKept
open V (hp_new hp_lt hp_below hp_alloc kl)

theorem inR_iff {z : Int} : inR z = true ↔ -9223372036854775808 ≤ z ∧ z ≤ 9223372036854775807 := by unfold inR; rw [decide_eq_true_eq]

/-- The law's procedure in the heap. -/
abbrev cS (n : Int) : Array Value := #[.int .i64 13, .int .i64 0, .int .i64 1, .int .i64 1, .int .i64 n, .int .i64 0, .int .i64 0, .string emp, .int .i64 15, .int .i64 0, .int .i64 0, .int .i64 0, .int .i64 0, .int .i64 0, .int .i64 0, .string emp, .int .i64 14, .int .i64 2, .int .i64 1, .int .i64 0, .int .i64 0, .int .i64 0, .int .i64 0, .string emp, .int .i64 15, .int .i64 2, .int .i64 0, .int .i64 0, .int .i64 0, .int .i64 0, .int .i64 0, .string emp, .int .i64 14, .int .i64 3, .int .i64 2, .int .i64 0, .int .i64 0, .int .i64 0, .int .i64 0, .string emp, .int .i64 15, .int .i64 3, .int .i64 0, .int .i64 0, .int .i64 0, .int .i64 0, .int .i64 0, .string emp, .int .i64 12, .int .i64 0, .int .i64 1, .int .i64 1, .int .i64 n, .int .i64 0, .int .i64 0, .string emp, .int .i64 15, .int .i64 0, .int .i64 0, .int .i64 0, .int .i64 0, .int .i64 0, .int .i64 0, .string emp]
/-- The world ahead of the procedure's own box. -/
abbrev w4S (w1 : World) (n : Int) (a : Option Addr) (c TN : Nat) : World := (w1.alloc (.cells #[.slice a TN c, .slice none 0 0] 26)).alloc (.cells (cS n) 31)

theorem va_nil (W : World) : Va W (.slice none 0 0) [] := ⟨none, 0, rfl, Nat.le_refl _, fun h => absurd rfl h⟩

theorem w4S_all (w1 : World) (n : Int) (a : Option Addr) (c TN : Nat) (W : World) (hI : Inn (w4S w1 n a c TN) (.cells #[.string nmS, .int .i64 0, .slice (some ⟨w1.heap.size + 1, 0, none⟩) 8 8] 34) W) :
    (W.cell? ⟨w1.heap.size + 1 + 1, 0, none⟩ = some (.string nmS) ∧ W.cell? ⟨w1.heap.size + 1 + 1, 1, none⟩ = some (.int .i64 0) ∧ W.cell? ⟨w1.heap.size + 1 + 1, 2, none⟩ = some (.slice (some ⟨w1.heap.size + 1, 0, none⟩) 8 8) ∧ W.cell? ⟨w1.heap.size, 0, none⟩ = some (.slice a TN c) ∧ W.cell? ⟨w1.heap.size, 1, none⟩ = some (.slice none 0 0)) ∧ Below w1.heap.size w1 W ∧ CodeAt W (.slice (some ⟨w1.heap.size + 1, 0, none⟩) 8 8) (xsS n) := by
  obtain ⟨hA, hB, hC, hb⟩ := three w1 (.cells #[.slice a TN c, .slice none 0 0] 26) (.cells (cS n) 31) (.cells #[.string nmS, .int .i64 0, .slice (some ⟨w1.heap.size + 1, 0, none⟩) 8 8] 34)
  have es : (w4S w1 n a c TN).heap.size + 1 = w1.heap.size + 3 := by simp
  unfold Inn at hI
  rw [es] at hI
  have gA := blk_of hI hA (by omega)
  have gB := blk_of hI hB (by omega)
  have gC := blk_of hI hC (by omega)
  refine ⟨⟨by rw [cell_of_row _ _ _ _ _ _ gC]; rfl, by rw [cell_of_row _ _ _ _ _ _ gC]; rfl, by rw [cell_of_row _ _ _ _ _ _ gC]; rfl, by rw [cell_of_row _ _ _ _ _ _ gA]; rfl, by rw [cell_of_row _ _ _ _ _ _ gA]; rfl⟩, hb.trans (hI.mono (by omega)), ?_⟩
  exact code_lit (xs := xsS n) gB rfl

theorem box_mk1 {w1 W : World} {n : Int} {a : Option Addr} {c TN : Nat} {o : Obj} (hb : Below (((w4S w1 n a c TN).alloc o).alloc (.cells #[.int .i64 0, .int .i64 0, .slice none 0 0, .slice none 0 0, .slice none 0 0] 40)).drew.heap.size (((w4S w1 n a c TN).alloc o).alloc (.cells #[.int .i64 0, .int .i64 0, .slice none 0 0, .slice none 0 0, .slice none 0 0] 40)).drew W) : Box W (w4S w1 n a c TN) (w1.heap.size + 1 + 1 + 1) := by
  have h1 := Box.mk1 hb
  rwa [show (w4S w1 n a c TN).heap.size = w1.heap.size + 1 + 1 by simp] at h1

/-- One more, where the sum goes through. -/
theorem sum_go {T : KV} {n : Int} {k : Nat} {want : Int} (hk : k < T.length) (hn : (k : Int) < n) (h : sumS n.toNat T 0 = sumS (n.toNat - k) (T.drop k) want) (h0 : (sumS n.toNat T 0).2 = 0) :
    T[k].2.k = 1 ∧ T[k].2.t = emp ∧ inR (want + T[k].2.i) = true ∧ sumS n.toNat T 0 = sumS (n.toNat - (k + 1)) (T.drop (k + 1)) (want + T[k].2.i) := by
  have h1 := h
  rw [h, List.drop_eq_getElem_cons hk, show n.toNat - k = (n.toNat - (k + 1)) + 1 by omega] at h0
  rw [List.drop_eq_getElem_cons hk, show n.toNat - k = (n.toNat - (k + 1)) + 1 by omega] at h1
  unfold sumS at h0
  rw [h1]
  conv => rhs; rhs; rhs; lhs; unfold sumS
  by_cases e1 : isI T[k].2.k T[k].2.t = true
  · rw [if_pos e1] at h0
    by_cases e2 : inR (want + T[k].2.i) = true
    · have e3 := e1
      unfold isI at e3
      rw [decide_eq_true_eq] at e3
      exact ⟨e3.1, e3.2, e2, by rw [if_pos e1, if_pos e2]⟩
    · rw [if_neg e2] at h0; cases h0
  · rw [if_neg e1] at h0; cases h0

theorem sum_end1 {T : KV} {n : Int} {k : Nat} {want : Int} (hk : k ≤ T.length) (hkn : (k : Int) ≤ n) (hn : ¬ (k : Int) < n) (h : sumS n.toNat T 0 = sumS (n.toNat - k) (T.drop k) want) : (sumS n.toNat T 0).1 = want ∧ ((min n.toNat T.length : Nat) : Int) = k := by
  rw [h, show n.toNat - k = 0 by omega]
  exact ⟨rfl, by omega⟩
theorem sum_end2 {T : KV} {n : Int} {k : Nat} {want : Int} (hk : k = T.length) (hkn : (k : Int) ≤ n) (h : sumS n.toNat T 0 = sumS (n.toNat - k) (T.drop k) want) : (sumS n.toNat T 0).1 = want ∧ ((min n.toNat T.length : Nat) : Int) = k := by
  rw [h, hk, List.drop_length]
  refine ⟨by cases (n.toNat - T.length) <;> rfl, by omega⟩

/-- The law's two boxes. -/
structure FB (W0 : World) (u v : Vd) (W : World) : Prop where
  b1 : W.heap[W0.heap.size]? = some (.cells #[.int .i64 u.k, .int .i64 u.i, .string u.t] 29 (0, 0))
  b2 : W.heap[W0.heap.size + 1]? = some (.cells #[.int .i64 v.k, .int .i64 v.i, .string v.t] 29 (0, 0))
  bl : Below W0.heap.size W0 W

theorem fb_new (W0 : World) : FB W0 z0 z0 ((W0.alloc (.cells #[.int .i64 0, .int .i64 0, .string emp] 29)).alloc (.cells #[.int .i64 0, .int .i64 0, .string emp] 29)) :=
  ⟨two1 W0 _ _, two2 W0 _ _, (below1 W0 _).alloc (by simp) _⟩
theorem FB.go {W0 W W' : World} {u v : Vd} (h : FB W0 u v W) (hb : Below W.heap.size W W') : FB W0 u v W' :=
  ⟨blk_of hb h.b1 (hp_lt h.b1), blk_of hb h.b2 (hp_lt h.b2), below_on h.bl hb⟩
theorem FB.set1 {W0 W : World} {u v : Vd} (h : FB W0 u v W) (x : Vd) : FB W0 x v (((W.setCell ⟨W0.heap.size, 0, none⟩ (.int .i64 x.k)).setCell ⟨W0.heap.size, 1, none⟩ (.int .i64 x.i)).setCell ⟨W0.heap.size, 2, none⟩ (.string x.t)) :=
  ⟨set3 h.b1 _ _ _, V.hp_set (V.hp_set (V.hp_set h.b2 (p := ⟨W0.heap.size, 0, none⟩) (by show ¬ W0.heap.size + 1 = W0.heap.size; omega) _) (p := ⟨W0.heap.size, 1, none⟩) (by show ¬ W0.heap.size + 1 = W0.heap.size; omega) _) (p := ⟨W0.heap.size, 2, none⟩) (by show ¬ W0.heap.size + 1 = W0.heap.size; omega) _, Below.set3 h.bl (Nat.le_refl _) _ _ _⟩
theorem FB.set2 {W0 W : World} {u v : Vd} (h : FB W0 u v W) (x : Vd) : FB W0 u x (((W.setCell ⟨W0.heap.size + 1, 0, none⟩ (.int .i64 x.k)).setCell ⟨W0.heap.size + 1, 1, none⟩ (.int .i64 x.i)).setCell ⟨W0.heap.size + 1, 2, none⟩ (.string x.t)) :=
  ⟨V.hp_set (V.hp_set (V.hp_set h.b1 (p := ⟨W0.heap.size + 1, 0, none⟩) (by show ¬ W0.heap.size = W0.heap.size + 1; omega) _) (p := ⟨W0.heap.size + 1, 1, none⟩) (by show ¬ W0.heap.size = W0.heap.size + 1; omega) _) (p := ⟨W0.heap.size + 1, 2, none⟩) (by show ¬ W0.heap.size = W0.heap.size + 1; omega) _, set3 h.b2 _ _ _, Below.set3 h.bl (Nat.le_succ _) _ _ _⟩

theorem hdV_get {T : KV} (h : 0 < T.length) : hdV T = ⟨2, 0, T[0].1⟩ := by
  cases T with
  | nil => exact absurd h (Nat.lt_irrefl _)
  | cons x T => rfl
theorem hdV_drop {T : KV} (h : 1 < T.length) : hdV (T.drop 1) = ⟨2, 0, T[1].1⟩ := by
  rw [List.drop_eq_getElem_cons h]
  rfl
theorem hdV_nil {T : KV} (h : T.length = 0) : hdV T = z0 := by rw [List.length_eq_zero_iff.1 h]; rfl
theorem hdV_none {T : KV} (h : T.length ≤ 1) : hdV (T.drop 1) = z0 := by rw [List.drop_eq_nil_of_le h]; rfl

theorem eql29 (a b : Int) (c : ByteArray) (a' b' : Int) (c' : ByteArray) (e1 : a = a') (e2 : b = b') (e3 : c = c') (w : World) : (binOp BinOp.eql 29 (.agg #[.int .i64 a, .int .i64 b, .string c]) (.agg #[.int .i64 a', .int .i64 b', .string c'])).run Tryz.prog w = .ok (.bool true) w := by
  subst e1 e2 e3
  simp [go_sem]

/-- Four values that were told. -/
structure T4 (W : World) (b off : Nat) (x0 x1 x2 x3 : Vd) : Prop where
  c0 : W.cell? ⟨b, off, none⟩ = some (.int .i64 x0.k) ∧ W.cell? ⟨b, off + 1, none⟩ = some (.int .i64 x0.i) ∧ W.cell? ⟨b, off + 2, none⟩ = some (.string x0.t)
  c1 : W.cell? ⟨b, off + 3, none⟩ = some (.int .i64 x1.k) ∧ W.cell? ⟨b, off + 3 + 1, none⟩ = some (.int .i64 x1.i) ∧ W.cell? ⟨b, off + 3 + 2, none⟩ = some (.string x1.t)
  c2 : W.cell? ⟨b, off + 6, none⟩ = some (.int .i64 x2.k) ∧ W.cell? ⟨b, off + 6 + 1, none⟩ = some (.int .i64 x2.i) ∧ W.cell? ⟨b, off + 6 + 2, none⟩ = some (.string x2.t)
  c3 : W.cell? ⟨b, off + 9, none⟩ = some (.int .i64 x3.k) ∧ W.cell? ⟨b, off + 9 + 1, none⟩ = some (.int .i64 x3.i) ∧ W.cell? ⟨b, off + 9 + 2, none⟩ = some (.string x3.t)
theorem T4.below {W W' : World} {b off : Nat} {x0 x1 x2 x3 : Vd} (h : T4 W b off x0 x1 x2 x3) (hb : Below W.heap.size W W') : T4 W' b off x0 x1 x2 x3 := by
  have go : ∀ {a : Addr} {v : Value}, W.cell? a = some v → W'.cell? a = some v := fun h => (hb.cell (World.block_lt_of_cell? _ _ h)).trans h
  exact ⟨⟨go h.c0.1, go h.c0.2.1, go h.c0.2.2⟩, ⟨go h.c1.1, go h.c1.2.1, go h.c1.2.2⟩, ⟨go h.c2.1, go h.c2.2.1, go h.c2.2.2⟩, ⟨go h.c3.1, go h.c3.2.1, go h.c3.2.2⟩⟩

theorem told4 {W : World} {r : Nat} {st at_ : Int} {TD : List Vd} {wl : List (ByteArray × Vd)} {lk : List (ByteArray × ByteArray)} {t1 t2 t3 : Option Addr} {k1 k2 k3 : Nat} {v0 v1 v2 v3 : Vd} (h : EfB W r st at_ TD wl lk t1 t2 t3 k1 k2 k3) (e : TD = [v0, v1, v2, v3]) :
    ∃ x0 x1 x2 x3 b off, t1 = some ⟨b, off, none⟩ ∧ 4 ≤ k1 ∧ T4 W b off x0 x1 x2 x3 ∧ x0 = v0 ∧ x1 = v1 ∧ x2 = v2 ∧ x3 = v3 := by
  subst e
  obtain ⟨b, off, e1, h1, a0, a1, a2⟩ := h.told 0 (by simp)
  obtain ⟨b', off', e2, -, b0, b1, b2⟩ := h.told 1 (by simp)
  rw [e1] at e2
  injection e2 with e2; injection e2 with e3 e4 _
  subst e3 e4
  obtain ⟨b', off', e2, -, c0, c1, c2⟩ := h.told 2 (by simp)
  rw [e1] at e2
  injection e2 with e2; injection e2 with e3 e4 _
  subst e3 e4
  obtain ⟨b', off', e2, -, d0, d1, d2⟩ := h.told 3 (by simp)
  rw [e1] at e2
  injection e2 with e2; injection e2 with e3 e4 _
  subst e3 e4
  exact ⟨v0, v1, v2, v3, b, off, e1, h1, ⟨⟨a0, a1, a2⟩, ⟨b0, b1, b2⟩, ⟨c0, c1, c2⟩, ⟨d0, d1, d2⟩⟩, rfl, rfl, rfl, rfl⟩

theorem sum_one {T : KV} {n : Int} {k : Nat} {want : Int} (hk : k < T.length) (hn : (k : Int) < n) (h : sumS n.toNat T 0 = sumS (n.toNat - k) (T.drop k) want) :
    sumS n.toNat T 0 = if isI T[k].2.k T[k].2.t = true then (if inR (want + T[k].2.i) = true then sumS (n.toNat - (k + 1)) (T.drop (k + 1)) (want + T[k].2.i) else (0, 15)) else (0, 14) := by
  rw [h, List.drop_eq_getElem_cons hk, show n.toNat - k = (n.toNat - (k + 1)) + 1 by omega]
  rfl
theorem isI_of_chk {i : Int} {t : ByteArray} (h : chk 1 i t = 0) : isI 1 t = true := by
  unfold chk at h
  unfold isI
  rw [decide_eq_true_eq]
  refine ⟨rfl, ?_⟩
  simp at h
  exact h

end Go.Proofs.YthcoigbkdbkojabGreat
