import Derived.Test.YtlmompdfombgeabGreatK14
namespace Go.Proofs.YtlmompdfombgeabGreat
open Go.RowKit Go.MapKept

theorem nm_ne {nm : ByteArray} (h : nmOK nm = true) : nm.toList.isEmpty = false := by
  have h1 : 1 ≤ nm.size := by
    unfold nmOK at h
    simp only [Bool.and_eq_true, decide_eq_true_eq] at h
    exact h.1.1
  rw [ByteArray.toList_eq]
  cases hl : nm.data.toList with
  | nil =>
    have : nm.data.size = 0 := by rw [← Array.length_toList, hl]; rfl
    have : nm.size = 0 := this
    omega
  | cons _ _ => rfl

theorem nm_size {nm : ByteArray} (h : nmOK nm = true) : nm.size ≤ 40 := by
  unfold nmOK at h
  simp only [Bool.and_eq_true, decide_eq_true_eq] at h
  exact h.1.2

theorem nm_ne_empty {nm : ByteArray} (h : nmOK nm = true) : nm ≠ ⟨#[]⟩ := by
  rintro rfl
  cases h

section
variable {κ : Type} [DecidableEq κ]

theorem setK_perm (k : κ) (v : Value) : ∀ (kv : List (κ × Value)), (kv.map Prod.fst).Nodup → (setK k v kv).Perm (delK k kv ++ [(k, v)]) := by
  intro kv hn
  unfold setK
  split
  · rename_i h
    rw [delK_none h]
  · rename_i h
    rw [lo_lookup] at h
    induction kv with
    | nil => exact absurd rfl h
    | cons x l ih =>
      rw [List.map_cons, List.nodup_cons] at hn
      rw [lo] at h
      rw [List.map_cons]
      by_cases hx : x.1 = k
      · have hno : ∀ y ∈ l, y.1 ≠ k := fun y hy e => hn.1 (by rw [hx, ← e]; exact List.mem_map.2 ⟨y, hy, rfl⟩)
        have e1 : l.map (fun x => if x.1 = k then (k, v) else x) = l := by
          conv => rhs; rw [← List.map_id l]
          exact List.map_congr_left fun y hy => by rw [if_neg (hno y hy)]; rfl
        have e2 : delK k (x :: l) = l := by
          unfold delK
          rw [List.filter_cons_of_neg (by simp [hx])]
          exact List.filter_eq_self.2 fun y hy => by simpa using hno y hy
        rw [if_pos hx, e1, e2]
        exact (List.perm_append_singleton _ _).symm
      · rw [if_neg hx] at h ⊢
        have e2 : delK k (x :: l) = x :: delK k l := by
          unfold delK
          rw [List.filter_cons_of_pos (by simpa using hx)]
        rw [e2]
        exact (ih hn.2 h).cons x

theorem delK_keys (k : κ) {kv : List (κ × Value)} (hn : (kv.map Prod.fst).Nodup) : ((delK k kv).map Prod.fst).Nodup := hn.sublist (List.Sublist.map _ (List.filter_sublist))

theorem delK_perm (k : κ) {kv kv' : List (κ × Value)} (h : kv.Perm kv') : (delK k kv).Perm (delK k kv') := h.filter _
end

theorem encN_del (k : ByteArray) (l : List (ByteArray × Int)) : delK k (encN l) = encN (delA k l) := by
  unfold delK encN delA
  rw [List.filter_map]
  congr 1

theorem doN_perm (frm to : ByteArray) (file : Int) {kv : List (ByteArray × Value)} {l : List (ByteArray × Int)} (h : kv.Perm (encN l)) (hn : (kv.map Prod.fst).Nodup) : (doN frm to file kv).Perm (encN (doT l (frm, to, file))) := by
  have h1 : (delK frm kv).Perm (encN (delA frm l)) := by
    rw [← encN_del]
    exact delK_perm frm h
  unfold doN doT
  split
  · exact h1
  · refine (setK_perm to _ _ (delK_keys frm hn)).trans ?_
    unfold setA
    rw [show encN (delA to (delA frm l) ++ [(to, file)]) = encN (delA to (delA frm l)) ++ [(to, .int .i64 file)] by simp [encN]]
    refine List.Perm.append_right _ ?_
    rw [← encN_del]
    exact delK_perm to h1

theorem encT_snoc (l : List Nmg) (frm to : ByteArray) (file : Int) : encT (l ++ [(frm, to, file)]) = encT l ++ [.string frm, .string to, .int .i64 file] := by simp [encT]

section
variable {w : World} {d : Nat} {t : Wt} {D : Dq} {n : Nat}

/-- A change of the names, done and pending. -/
def turnD (frm to : ByteArray) (file : Int) (D : Dq) : Dq := { D with turns := D.turns ++ [(frm, to, file)] }

theorem turnD_names (frm to : ByteArray) (file : Int) (D : Dq) : (turnD frm to file D).names = doT D.names (frm, to, file) := by simp [Dq.names, turnD, List.foldl_append]

theorem pendN_dk (h : DkT w d t D) (frm to : ByteArray) (file : Int) (hl : D.turns.length ≤ 1000000) (h1 : frm.size ≤ 1000000) (h2 : to.size ≤ 1000000) :
    Calls Tryz.prog 54 #[.pointer (some ⟨d, 0, none⟩), .agg #[.string frm, .string to, .int .i64 file]] w fun x w' => x = .returned (.tuple #[]) ∧ ∃ t', Goes d w t D w' t' (turnD frm to file D) ∧ t'.N = t.N := by
  obtain ⟨a1, a2, a3, a4, a5, a6, a7⟩ := h.apart
  have vnL : t.vn.ownBlock ≠ some t.L := fun e => by
    obtain ⟨cs, a⟩ := owns_block h.nam _ e
    exact hp_ne h.hL.blk a (by simp) rfl
  have vnF : t.vn.ownBlock ≠ some t.F := fun e => by
    obtain ⟨cs, a⟩ := owns_block h.nam _ e
    exact hp_ne h.hF.blk a (by simp) rfl
  have vnk1 : ∀ b, t.k1 = .map (some b) → t.vn.ownBlock ≠ some b := fun b e e' => by
    obtain ⟨cs, a⟩ := owns_block h.nam _ e'
    obtain ⟨es, c, a'⟩ := (show KF w (.map (some b)) D.fs from e ▸ h.kf1).blk
    exact hp_ne a a' (by simp) rfl
  have vnk2 : ∀ b, t.k2 = .map (some b) → t.vn.ownBlock ≠ some b := fun b e e' => by
    obtain ⟨cs, a⟩ := owns_block h.nam _ e'
    obtain ⟨es, c, a'⟩ := (show KF w (.map (some b)) D.fr from e ▸ h.kf2).blk
    exact hp_ne a a' (by simp) rfl
  refine (pend_names 0 d frm to file w D.room D.limit (.map (some t.L)) D.made t.N (.map (some t.F)) t.vn D.off D.st t.k1 D.rd t.k2 t.eN t.cN D.turns.length (encT D.turns) (fun w' => ∃ es' c', MG KS w' t.N (doN frm to file t.kn) es' c') h.disk h.hN.blk (Nat.zero_le _) h.nam hl h1 h2 (fun wx hx => do_gen frm to file t.N t.kn t.eN t.cN wx ⟨hx, h.hN.hold, h.hN.nd, h.hN.kvs, h.hN.keys⟩)).mono ?_
  rintro x w' ⟨rfl, vn', hD', ⟨es', c', hM'⟩, hv', hk, hvo⟩
  refine ⟨rfl, { t with vn := vn', kn := doN frm to file t.kn, eN := es', cN := c' }, ⟨⟨hD', h.hL.kept hk ?_, hM', h.hF.kept hk ?_, h.pl, ?_, h.pf, h.ln, h.lf, h.nf, ?_, h.dis, ?_, h.kf1.keptOf hk ?_, h.kf2.keptOf hk ?_, h.kd⟩, hk.mono ?_, ?_⟩, rfl⟩
  · rintro (e | e | e)
    · exact a1 e.symm
    · exact h.ln e
    · exact vnL e
  · rintro (e | e | e)
    · exact a3 e.symm
    · exact h.nf e.symm
    · exact vnF e
  · rw [turnD_names]
    exact doN_perm frm to file h.pn h.hN.keys
  · intro f hf
    refine (h.fil f hf).kept hk ?_
    intro k e
    obtain ⟨b1, b2, b3, b4, b5, b6, b7⟩ := h.fapart hf e
    rintro (e | e | e)
    · exact b1 e
    · exact b3 e
    · exact b5 e
  · show w'.ownsRow 0 104 3 vn' (D.turns ++ [(frm, to, file)]).length (encT (D.turns ++ [(frm, to, file)]))
    rw [encT_snoc, List.length_append]
    exact hv'
  · rintro b e (e' | e' | e')
    · subst e'; exact a5 e
    · exact (h.kd b (.inl e)).2.1 e'
    · exact vnk1 b e e'
  · rintro b e (e' | e' | e')
    · subst e'; exact a6 e
    · exact (h.kd b (.inr e)).2.1 e'
    · exact vnk2 b e e'
  · rintro k _ (e | e | e)
    · exact .inl e
    · exact .inr (.inr (.inl e))
    · exact .inr (.inr (.inr (.inr (.inl e))))
  · rintro k (e | e | e | e | e | e | e | e)
    · exact .inl (.inl e)
    · exact .inl (.inr (.inl e))
    · exact .inl (.inr (.inr (.inl e)))
    · exact .inl (.inr (.inr (.inr (.inl e))))
    · rcases hvo with e2 | ⟨j, e2, e3⟩
      · exact .inl (.inr (.inr (.inr (.inr (.inl (e2.symm.trans e))))))
      · have : some j = some k := e3.symm.trans e
        injection this with this
        exact .inr (by omega)
    · exact .inl (.inr (.inr (.inr (.inr (.inr (.inl e))))))
    · exact .inl (.inr (.inr (.inr (.inr (.inr (.inr (.inl e)))))))
    · exact .inl (.inr (.inr (.inr (.inr (.inr (.inr (.inr e)))))))

/-- A file more, with a name. -/
def createK (nm : ByteArray) (D : Dq) : Int × Dq :=
  if D.limit ≤ (D.files.length : Int) then (9, D) else (0, { D with made := D.made + 1, files := D.files ++ [⟨D.made + 1, [], []⟩], turns := D.turns ++ [(⟨#[]⟩, nm, D.made + 1)] })

theorem delA_none {k : ByteArray} {l : List (ByteArray × Int)} (h : ∀ x ∈ l, x.1 ≠ k) : delA k l = l := List.filter_eq_self.2 fun x hx => by simpa using h x hx

set_option maxRecDepth 100000 in
set_option maxHeartbeats 1000000 in
theorem create1_full (d xd xn : Nat) (f : Value) (w : World) (limit : Int) (L : Nat) (fs : Array MapEntry) (c : Nat)
    (c2 : w.cell? ⟨d, 2, none⟩ = some (.map (some L))) (c1 : w.cell? ⟨d, 1, none⟩ = some (.int .i64 limit)) (hL : w.heap[L]? = some (.map fs c)) (hxd : w.cell? ⟨xd, 0, none⟩ = some (.pointer (some ⟨d, 0, none⟩))) (hlim : limit ≤ (fs.size : Int)) :
    Calls Tryz.prog 53 #[f, .pointer (some ⟨xd, 0, none⟩), .pointer (some ⟨xn, 0, none⟩)] w fun x w' => x = .returned (.int .i64 9) ∧ Below w.heap.size w w' := by
  have hlen : ∀ m ty, (Builtin.len_ #[82] ty #[.map (some L)]).run Tryz.prog (w.drewN m) = .ok (.int .i64 fs.size) (w.drewN m) := fun m ty => len_map (w := w.drewN m) Tryz.underlying82 hL ty
  have j : decide (limit ≤ (fs.size : Int)) = true := by simpa using hlim
  clear hL
  go_enter Tryz.func53, Tryz.ntmps53
  go_wp2
  go_quiet (fail)
  go_wp2
  go_ret
  exact ⟨rfl, below_drewN (Below.refl _ _) _⟩

end
end Go.Proofs.YtlmompdfombgeabGreat

namespace Go.Proofs.YtlmompdfombgeabGreat
open Go.RowKit Go.MapKept

section
variable {w : World} {d : Nat} {t : Wt} {D : Dq} {n : Nat}

theorem dlook_none (hW : WD n D) {nm : ByteArray} (h : D.look nm = none) : lo nm D.names = none := by
  cases e : lo nm D.names with
  | none => rfl
  | some m =>
    obtain ⟨f, hf⟩ := ff_some (hW.nam.l _ (lo_mem e))
    replace hf : ff m D.files = some f := hf
    simp [Dq.look, e, hf] at h

theorem DkT.lsize (h : DkT w d t D) : t.eL.size = D.files.length := by
  rw [h.hL.size, h.pl.length_eq]
  simp [encL]

theorem createC_dk (h : DkT w d t D) (hW : WD n D) (hn : n ≤ 1000000) (xd xn : Nat) (f : Value) (nm : ByteArray) (hok : nmOK nm = true) (hl : D.look nm = none)
    (hxd : w.cell? ⟨xd, 0, none⟩ = some (.pointer (some ⟨d, 0, none⟩))) (hxn : w.cell? ⟨xn, 0, none⟩ = some (.string nm)) (hd1 : xd ≠ d) (hd2 : xn ≠ d) :
    Calls Tryz.prog 53 #[f, .pointer (some ⟨xd, 0, none⟩), .pointer (some ⟨xn, 0, none⟩)] w fun x w' => x = .returned (.int .i64 (createK nm D).1) ∧ ∃ t', Goes d w t D w' t' (createK nm D).2 := by
  have hsz := h.lsize
  obtain ⟨c0, c1, c2, c3, c4, c5, c6, c7, c8, c9, c10, c11⟩ := h.disk.cells
  by_cases hfull : D.limit ≤ (D.files.length : Int)
  · have e : createK nm D = (9, D) := by simp [createK, hfull]
    rw [e]
    refine (create1_full d xd xn f w D.limit t.L t.eL t.cL c2 c1 h.hL.blk hxd (by rw [hsz]; exact hfull)).mono ?_
    rintro x w' ⟨rfl, hb⟩
    exact ⟨rfl, t, Goes.still h hb⟩
  · have e : createK nm D = (0, { D with made := D.made + 1, files := D.files ++ [⟨D.made + 1, [], []⟩], turns := D.turns ++ [(⟨#[]⟩, nm, D.made + 1)] }) := by simp [createK, hfull]
    rw [e]
    have hnm : lo nm D.names = none := dlook_none hW hl
    have hno : ∀ g ∈ D.files, g.no ≠ D.made + 1 := fun g hg e => by have := (hW.rng g hg).2; omega
    have hffn : ff (D.made + 1) D.files = none := by
      cases e : ff (D.made + 1) D.files with
      | none => rfl
      | some g => exact absurd (ff_mem e).2 (hno g (ff_mem e).1)
    have hem : lo (⟨#[]⟩ : ByteArray) D.names = none := lo_none.2 fun x hx e => nm_ne_empty (hW.nam.ok x hx) e
    have k1 : lo (D.made + 1) t.kl = none := by rw [h.lkeys, hffn]; rfl
    have k2 : lo (⟨#[]⟩ : ByteArray) t.kn = none := by rw [h.nkeys, hem]; rfl
    have k3 : lo nm t.kn = none := by rw [h.nkeys, hnm]; rfl
    have f1 := (h.hL.findn (D.made + 1)).1 k1
    have f2 := (h.hN.findn ⟨#[]⟩).1 k2
    have f3 := (h.hN.findn nm).1 k3
    have hm := hW.made
    have ht := hW.tur
    refine (create1_any 0 d xd xn f nm w D.room D.limit t.L D.made t.N (.map (some t.F)) t.vn D.off D.st t.k1 D.rd t.k2 t.eL t.eN t.cL t.cN D.turns.length (encT D.turns) h.disk h.hL.blk h.hN.blk h.ln (Nat.zero_le _) h.nam (by omega) hxd hxn hd1 hd2 (by rw [hsz]; omega) (by omega) (by omega) (by have := nm_size hok; omega) (nm_ne hok) f1 f2 f3).mono ?_
    rintro x w' ⟨rfl, p, vs, vd, vf, vn', hp, hfile, hD', hL', hN', hv', hk, hvo⟩
    obtain ⟨ft', hF, hB⟩ := fil_new (bs := []) hfile hp (D.made + 1)
    obtain ⟨a1, a2, a3, a4, a5, a6, a7⟩ := h.apart
    have vnF : t.vn.ownBlock ≠ some t.F := fun e => by
      obtain ⟨cs, a⟩ := owns_block h.nam _ e
      exact hp_ne h.hF.blk a (by simp) rfl
    have vnk1 : ∀ b, t.k1 = .map (some b) → t.vn.ownBlock ≠ some b := fun b e e' => by
      obtain ⟨cs, a⟩ := owns_block h.nam _ e'
      obtain ⟨es, c, a'⟩ := (show KF w (.map (some b)) D.fs from e ▸ h.kf1).blk
      exact hp_ne a a' (by simp) rfl
    have vnk2 : ∀ b, t.k2 = .map (some b) → t.vn.ownBlock ≠ some b := fun b e e' => by
      obtain ⟨cs, a⟩ := owns_block h.nam _ e'
      obtain ⟨es, c, a'⟩ := (show KF w (.map (some b)) D.fr from e ▸ h.kf2).blk
      exact hp_ne a a' (by simp) rfl
    have oldf : ∀ g ∈ D.files, (if g.no = D.made + 1 then ft' else t.ft g.no) = t.ft g.no := fun g hg => if_neg (hno g hg)
    have oldp : ∀ g ∈ D.files, (if g.no = D.made + 1 then p else t.pt g.no) = t.pt g.no := fun g hg => if_neg (hno g hg)
    have hlt : ∀ g ∈ D.files, ∀ k, t.ft g.no k → k < w.heap.size := fun g hg k e => (h.fil g hg).lt k e
    refine ⟨rfl, { t with vn := vn', kl := t.kl ++ [(D.made + 1, .pointer (some ⟨p, 0, none⟩))], eL := _, cL := t.cL + 1, kn := t.kn ++ [(nm, .int .i64 (D.made + 1))], eN := _, cN := t.cN + 1, ft := fun m => if m = D.made + 1 then ft' else t.ft m, pt := fun m => if m = D.made + 1 then p else t.pt m }, ⟨⟨hD', h.hL.push (D.made + 1) _ (by rw [lo_lookup]; exact k1) hL', h.hN.push nm _ (by rw [lo_lookup]; exact k3) hN', h.hF.kept hk ?_, ?_, ?_, h.pf, h.ln, h.lf, h.nf, ?_, ?_, ?_, h.kf1.keptOf hk ?_, h.kf2.keptOf hk ?_, h.kd⟩, hk.mono ?_, ?_⟩⟩
    · rintro (e | e | e | e)
      · exact a3 e.symm
      · exact h.lf e.symm
      · exact h.nf e.symm
      · exact vnF e
    · show (t.kl ++ [(D.made + 1, _)]).Perm (encL (fun m => if m = D.made + 1 then p else t.pt m) (D.files ++ [(⟨D.made + 1, [], []⟩ : Fi)]))
      have e1 : encL (fun m => if m = D.made + 1 then p else t.pt m) (D.files ++ [(⟨D.made + 1, [], []⟩ : Fi)]) = encL t.pt D.files ++ [(D.made + 1, .pointer (some ⟨p, 0, none⟩))] := by
        unfold encL
        rw [List.map_append]
        congr 1
        · exact List.map_congr_left fun g hg => by dsimp only; rw [oldp g hg]
        · simp
      rw [e1]
      exact h.pl.append_right _
    · show (t.kn ++ [(nm, Value.int .i64 (D.made + 1))]).Perm (encN ((D.turns ++ [((⟨#[]⟩ : ByteArray), nm, D.made + 1)]).foldl doT D.safeN))
      rw [List.foldl_append, List.foldl_cons, List.foldl_nil]
      have e1 : doT (D.turns.foldl doT D.safeN) (⟨#[]⟩, nm, D.made + 1) = D.names ++ [(nm, D.made + 1)] := by
        show (if nm.toList.isEmpty = true then _ else setA nm (D.made + 1) (delA ⟨#[]⟩ D.names)) = _
        rw [if_neg (by rw [nm_ne hok]; simp)]
        unfold setA
        rw [delA_none (lo_none.1 hem), delA_none (lo_none.1 hnm)]
      rw [e1, show encN (D.names ++ [(nm, D.made + 1)]) = encN D.names ++ [(nm, .int .i64 (D.made + 1))] by simp [encN]]
      exact h.pn.append_right _
    · intro g hg
      show Fil w' (if g.no = D.made + 1 then ft' else t.ft g.no) (if g.no = D.made + 1 then p else t.pt g.no) g
      rcases List.mem_append.1 hg with hg | hg
      · rw [oldf g hg, oldp g hg]
        refine (h.fil g hg).kept hk ?_
        intro k e
        obtain ⟨b1, b2, b3, b4, b5, b6, b7⟩ := h.fapart hg e
        rintro (e | e | e | e)
        · exact b1 e
        · exact b2 e
        · exact b3 e
        · exact b5 e
      · rw [List.mem_singleton] at hg
        subst hg
        rw [if_pos rfl, if_pos rfl]
        exact hF
    · intro g hg g' hg' hne k
      show (if g.no = D.made + 1 then ft' else t.ft g.no) k → ¬ (if g'.no = D.made + 1 then ft' else t.ft g'.no) k
      rcases List.mem_append.1 hg with hg | hg <;> rcases List.mem_append.1 hg' with hg' | hg'
      · rw [oldf g hg, oldf g' hg']
        exact h.dis g hg g' hg' hne k
      · rw [List.mem_singleton] at hg'
        subst hg'
        rw [oldf g hg, if_pos rfl]
        intro e e'
        have := hlt g hg k e
        have := hB k e'
        omega
      · rw [List.mem_singleton] at hg
        subst hg
        rw [oldf g' hg', if_pos rfl]
        intro e e'
        have := hlt g' hg' k e'
        have := hB k e
        omega
      · rw [List.mem_singleton] at hg hg'
        subst hg hg'
        exact absurd rfl hne
    · show w'.ownsRow 0 104 3 vn' (D.turns ++ [((⟨#[]⟩ : ByteArray), nm, D.made + 1)]).length (encT (D.turns ++ [((⟨#[]⟩ : ByteArray), nm, D.made + 1)]))
      rw [encT_snoc, List.length_append]
      exact hv'
    · rintro b e (e' | e' | e' | e')
      · subst e'; exact a5 e
      · exact (h.kd b (.inl e)).1 e'
      · exact (h.kd b (.inl e)).2.1 e'
      · exact vnk1 b e e'
    · rintro b e (e' | e' | e' | e')
      · subst e'; exact a6 e
      · exact (h.kd b (.inr e)).1 e'
      · exact (h.kd b (.inr e)).2.1 e'
      · exact vnk2 b e e'
    · rintro k _ (e | e | e | e)
      · exact .inl e
      · exact .inr (.inl e)
      · exact .inr (.inr (.inl e))
      · exact .inr (.inr (.inr (.inr (.inl e))))
    · rintro k (e | e | e | e | e | e | e | ⟨g, hg, e⟩)
      · exact .inl (.inl e)
      · exact .inl (.inr (.inl e))
      · exact .inl (.inr (.inr (.inl e)))
      · exact .inl (.inr (.inr (.inr (.inl e))))
      · rcases hvo with e2 | ⟨j, e2, e3⟩
        · exact .inl (.inr (.inr (.inr (.inr (.inl (e2.symm.trans e))))))
        · have : some j = some k := e3.symm.trans e
          injection this with this
          exact .inr (by omega)
      · exact .inl (.inr (.inr (.inr (.inr (.inr (.inl e))))))
      · exact .inl (.inr (.inr (.inr (.inr (.inr (.inr (.inl e)))))))
      · replace e : (if g.no = D.made + 1 then ft' else t.ft g.no) k := e
        rcases List.mem_append.1 hg with hg | hg
        · rw [oldf g hg] at e
          exact .inl (.inr (.inr (.inr (.inr (.inr (.inr (.inr ⟨g, hg, e⟩)))))))
        · rw [List.mem_singleton] at hg
          subst hg
          rw [if_pos rfl] at e
          exact .inr (hB k e)

theorem WD.cntS (h : WD n D) : WD (n + 1) (cntS D) :=
  ⟨h.room, h.lim, ⟨h.made.1, by have := h.made.2; simp only [Go.Proofs.YtlmompdfombgeabGreat.cntS]; omega⟩, h.asc, h.rng, h.cnt, h.hld, h.saf, by have := h.tur; simp only [Go.Proofs.YtlmompdfombgeabGreat.cntS]; omega, fun f hf => ⟨by have := (h.chg f hf).1; omega, (h.chg f hf).2⟩, by have := h.st; simp only [Go.Proofs.YtlmompdfombgeabGreat.cntS]; omega, by have := h.rd; simp only [Go.Proofs.YtlmompdfombgeabGreat.cntS]; omega⟩

def createP (D : Dq) (nm : ByteArray) : Int × Dq := strokeP D (pre1 D nm true 0) (createK nm)

set_option maxRecDepth 100000 in
set_option maxHeartbeats 1000000 in
theorem create_dk (h : DkT w d t D) (hW : WD n D) (hn : n ≤ 100000) (nm : ByteArray) (hs : nm.size ≤ maxLen) :
    Calls Tryz.prog 20 #[.pointer (some ⟨d, 0, none⟩), .string nm] w fun x w' => x = .returned (.int .i64 (createP D nm).1) ∧ ∃ t', Goes d w t D w' t' (createP D nm).2 := by
  have hmf : ∀ (fn : Fn) (first cap : Array Value) (w : World), (Instr.makeFunc fn first cap).run Tryz.prog w = .ok (.func fn first cap) w := fun _ _ _ _ => rfl
  have hdl := hp_lt h.disk
  have hcall : Calls Tryz.prog 49 #[.pointer (some ⟨d, 0, none⟩), .agg #[.slice (some ⟨w.heap.size + 1 + 1, 0, none⟩) 1 1, .bool true, .int .i64 0], .func (.func 53) #[] #[.pointer (some ⟨w.heap.size, 0, none⟩), .pointer (some ⟨w.heap.size + 1, 0, none⟩)]]
      (((w.alloc (.cells #[.pointer (some ⟨d, 0, none⟩)] 34)).alloc (.cells #[.string nm] 9)).alloc (.cells #[.string nm] 9)) fun x w3 => x = .returned (.int .i64 (createP D nm).1) ∧ ∃ t', Goes d w t D w3 t' (createP D nm).2 := by
    have hb0 : Below w.heap.size w (((w.alloc (.cells #[.pointer (some ⟨d, 0, none⟩)] 34)).alloc (.cells #[.string nm] 9)).alloc (.cells #[.string nm] 9)) := (((Below.refl _ _).alloc (Nat.le_refl _) _).alloc (by simp) _).alloc (by simp; omega) _
    have g0 : (((w.alloc (.cells #[.pointer (some ⟨d, 0, none⟩)] 34)).alloc (.cells #[.string nm] 9)).alloc (.cells #[.string nm] 9)).cell? ⟨w.heap.size, 0, none⟩ = some (.pointer (some ⟨d, 0, none⟩)) := by simp [go_sem]
    have g1 : (((w.alloc (.cells #[.pointer (some ⟨d, 0, none⟩)] 34)).alloc (.cells #[.string nm] 9)).alloc (.cells #[.string nm] 9)).cell? ⟨w.heap.size + 1, 0, none⟩ = some (.string nm) := by simp [go_sem]
    have g2 : (((w.alloc (.cells #[.pointer (some ⟨d, 0, none⟩)] 34)).alloc (.cells #[.string nm] 9)).alloc (.cells #[.string nm] 9)).cell? ⟨w.heap.size + 1 + 1, 0, none⟩ = some (.string nm) := by simp [go_sem]
    obtain ⟨W, hW'⟩ : ∃ W, W = (((w.alloc (.cells #[.pointer (some ⟨d, 0, none⟩)] 34)).alloc (.cells #[.string nm] 9)).alloc (.cells #[.string nm] 9)) := ⟨_, rfl⟩
    rw [← hW'] at hb0 g0 g1 g2 ⊢
    clear hW'
    have hZ := h.below hb0
    refine (stroke_dk hZ hW (by omega) _ _ _ _ (pre1 D nm true 0) rfl rfl rfl (fun w1 hb => find1_dk (hZ.below hb) hW _ nm true 0 ((hb.cell (World.block_lt_of_cell? _ _ g2)).trans g2) hs (fun _ => rfl)) pre1_off 53 _ (enters_of Tryz.func53 (by kernel_rfl) rfl) (createK nm) ?_).mono ?_
    · intro e0 _ w2 hd2 hk2
      obtain ⟨hok, hl, _⟩ := pre1_look e0
      refine createC_dk hd2 hW.cntS (by omega) _ _ _ nm hok (hl rfl) (hk2.cell g0 (fun e => by simp at e; omega)) (hk2.cell g1 (fun e => by simp at e; omega)) (by omega) (by omega)
    · rintro x w3 ⟨rfl, t', hg⟩
      exact ⟨rfl, t', (Goes.still h hb0).trans hg⟩
  have HC := hid hcall
  clear h hcall
  go_enter Tryz.func20, Tryz.ntmps20
  go_wp2_with (
    go_at_call 49
    refine HC.out.mono ?_
    rintro e w3 ⟨rfl, hx⟩
    have HX := hid hx
    clear hx)
  go_ret
  exact ⟨rfl, HX.out⟩

end
end Go.Proofs.YtlmompdfombgeabGreat

namespace Go.Proofs.YtlmompdfombgeabGreat
open Go.RowKit Go.MapKept

theorem ff_self {f : Fi} : ∀ {l : List Fi}, (l.map Fi.no).Nodup → f ∈ l → ff f.no l = some f
  | [], _, h => by cases h
  | g :: l, hn, h => by
    rw [List.map_cons, List.nodup_cons] at hn
    rw [ff]
    rcases List.mem_cons.1 h with rfl | h
    · rw [if_pos rfl]
    · rw [if_neg (fun e => hn.1 (by rw [e]; exact List.mem_map.2 ⟨f, h, rfl⟩))]
      exact ff_self hn.2 h

/-- What is held. -/
def heldD (D : Dq) : Nat := (D.files.map Fi.peak).sum

/-- The peak of a number. -/
def pkN (D : Dq) (m : Int) : Int := ((ff m D.files).map fun f => (f.peak : Int)).getD 0
/-- Of an entry. -/
def pkE (D : Dq) (e : MapEntry) : Int := pkN D (iv e.key)

theorem sum_cast : ∀ l : List Nat, ((l.sum : Nat) : Int) = (l.map (fun n : Nat => (n : Int))).sum
  | [] => rfl
  | a :: l => by rw [List.sum_cons, List.map_cons, List.sum_cons, ← sum_cast l]; omega

theorem sumI_perm {l l' : List Int} (h : l.Perm l') : l.sum = l'.sum := by
  induction h with
  | nil => rfl
  | cons x _ ih => rw [List.sum_cons, List.sum_cons, ih]
  | swap x y l => simp only [List.sum_cons]; omega
  | trans _ _ h1 h2 => exact h1.trans h2

section
variable {w : World} {d : Nat} {t : Wt} {D : Dq} {n : Nat}

theorem DkT.sumE (h : DkT w d t D) (hW : WD n D) : Go.Proofs.YtlmompdfombgeabGreat.sumE (pkE D) t.eL.toList = heldD D := by
  unfold Go.Proofs.YtlmompdfombgeabGreat.sumE heldD
  have e1 : t.eL.toList.map (pkE D) = (t.eL.toList.map (fun e => (e.key, e.val))).map (fun x => pkN D (iv x.1)) := by rw [List.map_map]; rfl
  rw [e1, h.hL.kvs, List.map_map, sum_cast, List.map_map]
  have e2 : (t.kl.map ((fun x : Value × Value => pkN D (iv x.1)) ∘ fun x : Int × Value => (KI.enc x.1, x.2))).Perm ((encL t.pt D.files).map (fun x => pkN D x.1)) := h.pl.map (fun x : Int × Value => pkN D x.1)
  rw [sumI_perm e2]
  unfold encL
  rw [List.map_map]
  congr 1
  refine List.map_congr_left fun f hf => ?_
  simp only [Function.comp, pkN, ff_self hW.nd hf, Option.map_some, Option.getD_some]

theorem Fil.cells {ft : Nat → Prop} {p : Nat} {f : Fi} (h : Fil w ft p f) : (∃ ao cap, w.cell? ⟨p, 0, none⟩ = some (.slice ao f.safe.length cap) ∧ Sn w (.slice ao f.safe.length cap) f.safe) ∧ (∃ ao cap, w.cell? ⟨p, 1, none⟩ = some (.slice ao f.cs.length cap)) ∧ (∃ ao cap, w.cell? ⟨p, 2, none⟩ = some (.slice ao f.row.1.length cap) ∧ Sn w (.slice ao f.row.1.length cap) f.row.1) ∧ w.cell? ⟨p, 4, none⟩ = some (.int .i64 f.peak) := by
  obtain ⟨pend, vs, vp, vd, vf, hf, hp, ht⟩ := h
  obtain ⟨a0, b0, e0⟩ := own_shape hf.os
  obtain ⟨a1, b1, e1⟩ := own_shape hf.op
  obtain ⟨a2, b2, e2⟩ := own_shape hf.od
  obtain ⟨c0, c1, c2, c3, c4⟩ := cells5 hf.blk
  refine ⟨⟨a0, b0, by rw [← e0]; exact c0, by rw [← e0]; exact sn_of_owns hf.os⟩, ⟨a1, b1, ?_⟩, ⟨a2, b2, by rw [← e2]; exact c2, by rw [← e2]; exact sn_of_owns hf.od⟩, c4⟩
  rw [← hp.1, ← e1]
  exact c1

theorem DkT.peaks (h : DkT w d t D) (hW : WD n D) : Peaks w t.eL (pkE D) := by
  intro e he
  have h1 : (e.key, e.val) ∈ t.kl.map (fun x => (KI.enc x.1, x.2)) := by
    rw [← h.hL.kvs]
    exact List.mem_map.2 ⟨e, he, rfl⟩
  obtain ⟨x, hx, hxe⟩ := List.mem_map.1 h1
  injection hxe with hx1 hx2
  have h2 : x ∈ encL t.pt D.files := h.pl.mem_iff.1 hx
  obtain ⟨f, hf, rfl⟩ := List.mem_map.1 h2
  have hk : iv e.key = f.no := by rw [← hx1]; rfl
  have hpk : pkE D e = f.peak := by simp only [pkE, pkN, hk, ff_self hW.nd hf, Option.map_some, Option.getD_some]
  refine ⟨t.pt f.no, hx2.symm, ?_, by rw [hpk]; omega⟩
  rw [hpk]
  exact (h.fil f hf).cells.2.2.2

theorem held_dk (h : DkT w d t D) (hW : WD n D) : Calls Tryz.prog 57 #[.map (some t.L)] w fun x w' => x = .returned (.tuple #[.int .i64 (heldD D : Nat), .int .i64 D.files.length]) ∧ Below w.heap.size w w' := by
  have h1 := hW.hld
  have h2 := hW.room
  have h3 := hW.cnt
  have h4 := hW.lim
  have := held_any t.L t.cL t.eL (pkE D) w h.hL.blk h.hL.hold h.hL.nd (h.peaks hW) (by rw [h.sumE hW]; unfold heldD; omega) (by rw [h.lsize]; omega)
  rw [h.sumE hW, h.lsize] at this
  exact this

/-- Sync of a file. -/
def syncK (nm : ByteArray) (D : Dq) : Int × Dq := (0, match D.look nm with | some f => { D with files := setF { f with safe := f.row.1, cs := [] } D.files } | none => D)

set_option maxRecDepth 100000 in
set_option maxHeartbeats 1000000 in
theorem syncC_dk (h : DkT w d t D) (hW : WD n D) (nm : ByteArray) (f : Fi) (hl : D.look nm = some f) :
    Calls Tryz.prog 50 #[.pointer (some ⟨t.pt f.no, 0, none⟩)] w fun x w' => x = .returned (.int .i64 (syncK nm D).1) ∧ ∃ t', Goes d w t D w' t' (syncK nm D).2 := by
  have hf := (look_mem hl).1
  have HC := hid (sync_fil (h.fil f hf) (by have := hW.peak hf; omega))
  have e : syncK nm D = (0, { D with files := setF { f with safe := f.row.1, cs := [] } D.files }) := by simp [syncK, hl]
  rw [e]
  have H := hid h
  clear h e
  go_enter Tryz.func50, Tryz.ntmps50
  go_wp2_with (
    go_at_call 51
    refine HC.out.mono ?_
    rintro e w2 ⟨rfl, hx⟩
    have HX := hid hx
    clear hx)
  go_ret
  obtain ⟨ft', h1, h2, h3⟩ := HX.out
  exact ⟨rfl, _, H.out.change (f' := { f with safe := f.row.1, cs := [] }) hf rfl h2 h1 h3⟩

def syncP (D : Dq) (nm : ByteArray) : Int × Dq := strokeP D (pre1 D nm false 0) (syncK nm)

set_option maxRecDepth 100000 in
set_option maxHeartbeats 1000000 in
theorem sync_dk (h : DkT w d t D) (hW : WD n D) (hn : n ≤ 100000) (nm : ByteArray) (hs : nm.size ≤ maxLen) :
    Calls Tryz.prog 17 #[.pointer (some ⟨d, 0, none⟩), .string nm] w fun x w' => x = .returned (.int .i64 (syncP D nm).1) ∧ ∃ t', Goes d w t D w' t' (syncP D nm).2 := by
  have hmf : ∀ (fn : Fn) (first cap : Array Value) (w : World), (Instr.makeFunc fn first cap).run Tryz.prog w = .ok (.func fn first cap) w := fun _ _ _ _ => rfl
  have hcall : Calls Tryz.prog 49 #[.pointer (some ⟨d, 0, none⟩), .agg #[.slice (some ⟨w.heap.size, 0, none⟩) 1 1, .bool false, .int .i64 0], .func (.func 50) #[] #[]]
      (w.alloc (.cells #[.string nm] 9)) fun x w3 => x = .returned (.int .i64 (syncP D nm).1) ∧ ∃ t', Goes d w t D w3 t' (syncP D nm).2 := by
    have hb0 : Below w.heap.size w (w.alloc (.cells #[.string nm] 9)) := (Below.refl _ _).alloc (Nat.le_refl _) _
    have g2 : (w.alloc (.cells #[.string nm] 9)).cell? ⟨w.heap.size, 0, none⟩ = some (.string nm) := by simp [go_sem]
    obtain ⟨W, hW'⟩ : ∃ W, W = w.alloc (.cells #[.string nm] 9) := ⟨_, rfl⟩
    rw [← hW'] at hb0 g2 ⊢
    clear hW'
    have hZ := h.below hb0
    refine (stroke_dk hZ hW (by omega) _ _ _ _ (pre1 D nm false 0) rfl rfl rfl (fun w1 hb => find1_dk (hZ.below hb) hW _ nm false 0 ((hb.cell (World.block_lt_of_cell? _ _ g2)).trans g2) hs (fun h => by cases h)) pre1_off 50 _ (enters_of Tryz.func50 (by kernel_rfl) rfl) (syncK nm) ?_).mono ?_
    · intro e0 _ w2 hd2 hk2
      obtain ⟨hok, _, hl⟩ := pre1_look e0
      obtain ⟨f, hl, _⟩ := hl rfl
      rw [e0, show fvOf t D nm 0 = .pointer (some ⟨t.pt f.no, 0, none⟩) by simp [fvOf, hl]]
      exact syncC_dk hd2 hW.cntS nm f hl
    · rintro x w3 ⟨rfl, t', hg⟩
      exact ⟨rfl, t', (Goes.still h hb0).trans hg⟩
  have HC := hid hcall
  clear h hcall
  go_enter Tryz.func17, Tryz.ntmps17
  go_wp2_with (
    go_at_call 49
    refine HC.out.mono ?_
    rintro e w3 ⟨rfl, hx⟩
    have HX := hid hx
    clear hx)
  go_ret
  exact ⟨rfl, HX.out⟩

/-- Truncate. -/
def cutK (nm : ByteArray) (sz : Int) (D : Dq) : Int × Dq := (0, match D.look nm with | some f => (if sz < (f.row.1.length : Int) then { D with files := setF { f with cs := f.cs ++ [.inr sz.toNat] } D.files } else D) | none => D)

set_option maxRecDepth 100000 in
set_option maxHeartbeats 1000000 in
theorem cutC_dk (h : DkT w d t D) (hW : WD n D) (hn : n ≤ 1000000) (nm : ByteArray) (f : Fi) (hl : D.look nm = some f) (xs : Nat) (c : Nat) (hxs : w.cell? ⟨xs, 0, none⟩ = some (.int .i64 c)) (hc : c ≤ f.row.1.length) :
    Calls Tryz.prog 66 #[.pointer (some ⟨t.pt f.no, 0, none⟩), .pointer (some ⟨xs, 0, none⟩)] w fun x w' => x = .returned (.int .i64 (cutK nm c D).1) ∧ ∃ t', Goes d w t D w' t' (cutK nm c D).2 := by
  have hf := (look_mem hl).1
  obtain ⟨_, _, ⟨ao, cap, p2, _⟩, _⟩ := (h.fil f hf).cells
  have hpk := hW.peak hf
  have hcs := (hW.chg f hf).1
  by_cases hlt : c < f.row.1.length
  · have e : cutK nm c D = (0, { D with files := setF { f with cs := f.cs ++ [.inr c] } D.files }) := by
      unfold cutK
      rw [hl]
      dsimp only
      rw [if_pos (by omega), Int.toNat_natCast]
    rw [e]
    have H := hid h
    have hlt2 : (c : Int) < (f.row.1.length : Int) := by omega
    clear h e hlt
    go_enter Tryz.func66, Tryz.ntmps66
    go_wp2_with fail
    go_quiet (fail)
    have hbq : Below w.heap.size w (w.drewN nq) := below_drewN (Below.refl _ _) nq
    go_wp2_with (
      go_at_call 58
      refine (pendCut_fil ((H.out.below hbq).fil f hf) c hc (by omega) (by omega)).mono ?_
      rintro e w2 ⟨rfl, hx⟩
      have HX := hid hx
      clear hx)
    go_ret
    obtain ⟨ft', h1, h2, h3⟩ := HX.out
    exact ⟨rfl, _, (Goes.still H.out hbq).trans <| (H.out.below hbq).change (f' := { f with cs := f.cs ++ [.inr c] }) hf rfl h2 h1 h3⟩
  · have e : cutK nm c D = (0, D) := by
      unfold cutK
      rw [hl]
      dsimp only
      rw [if_neg (by omega)]
    rw [e]
    have H := hid h
    have hlt2 : ¬ (c : Int) < (f.row.1.length : Int) := by omega
    clear h e hlt
    go_enter Tryz.func66, Tryz.ntmps66
    go_wp2
    go_quiet (fail)
    go_wp2
    go_ret
    exact ⟨rfl, t, Goes.still H.out (below_drewN (Below.refl _ _) _)⟩

def cutP (D : Dq) (nm : ByteArray) (sz : Int) : Int × Dq := strokeP D (pre1 D nm false sz) (cutK nm sz)

set_option maxRecDepth 100000 in
set_option maxHeartbeats 1000000 in
theorem cut_dk (h : DkT w d t D) (hW : WD n D) (hn : n ≤ 100000) (nm : ByteArray) (hs : nm.size ≤ maxLen) (sz : Int) :
    Calls Tryz.prog 35 #[.pointer (some ⟨d, 0, none⟩), .string nm, .int .i64 sz] w fun x w' => x = .returned (.int .i64 (cutP D nm sz).1) ∧ ∃ t', Goes d w t D w' t' (cutP D nm sz).2 := by
  have hmf : ∀ (fn : Fn) (first cap : Array Value) (w : World), (Instr.makeFunc fn first cap).run Tryz.prog w = .ok (.func fn first cap) w := fun _ _ _ _ => rfl
  have hdl := hp_lt h.disk
  have hcall : Calls Tryz.prog 49 #[.pointer (some ⟨d, 0, none⟩), .agg #[.slice (some ⟨w.heap.size + 1, 0, none⟩) 1 1, .bool false, .int .i64 sz], .func (.func 66) #[] #[.pointer (some ⟨w.heap.size, 0, none⟩)]]
      ((w.alloc (.cells #[.int .i64 sz] 3)).alloc (.cells #[.string nm] 9)) fun x w3 => x = .returned (.int .i64 (cutP D nm sz).1) ∧ ∃ t', Goes d w t D w3 t' (cutP D nm sz).2 := by
    have hb0 : Below w.heap.size w ((w.alloc (.cells #[.int .i64 sz] 3)).alloc (.cells #[.string nm] 9)) := ((Below.refl _ _).alloc (Nat.le_refl _) _).alloc (by simp) _
    have g0 : ((w.alloc (.cells #[.int .i64 sz] 3)).alloc (.cells #[.string nm] 9)).cell? ⟨w.heap.size, 0, none⟩ = some (.int .i64 sz) := by simp [go_sem]
    have g2 : ((w.alloc (.cells #[.int .i64 sz] 3)).alloc (.cells #[.string nm] 9)).cell? ⟨w.heap.size + 1, 0, none⟩ = some (.string nm) := by simp [go_sem]
    obtain ⟨W, hW'⟩ : ∃ W, W = ((w.alloc (.cells #[.int .i64 sz] 3)).alloc (.cells #[.string nm] 9)) := ⟨_, rfl⟩
    rw [← hW'] at hb0 g0 g2 ⊢
    clear hW'
    have hZ := h.below hb0
    refine (stroke_dk hZ hW (by omega) _ _ _ _ (pre1 D nm false sz) rfl rfl rfl (fun w1 hb => find1_dk (hZ.below hb) hW _ nm false sz ((hb.cell (World.block_lt_of_cell? _ _ g2)).trans g2) hs (fun h => by cases h)) pre1_off 66 _ (enters_of Tryz.func66 (by kernel_rfl) rfl) (cutK nm sz) ?_).mono ?_
    · intro e0 _ w2 hd2 hk2
      obtain ⟨hok, _, hl⟩ := pre1_look e0
      obtain ⟨f, hl1, hz0, hz1⟩ := hl rfl
      rw [e0, show fvOf t D nm 0 = .pointer (some ⟨t.pt f.no, 0, none⟩) by simp [fvOf, hl1]]
      obtain ⟨c, rfl⟩ : ∃ c : Nat, sz = c := ⟨sz.toNat, by omega⟩
      exact cutC_dk hd2 hW.cntS (by omega) nm f hl1 _ c (hk2.cell g0 (fun e => by simp at e; omega)) (by omega)
    · rintro x w3 ⟨rfl, t', hg⟩
      exact ⟨rfl, t', (Goes.still h hb0).trans hg⟩
  have HC := hid hcall
  clear h hcall
  go_enter Tryz.func35, Tryz.ntmps35
  go_wp2_with (
    go_at_call 49
    refine HC.out.mono ?_
    rintro e w3 ⟨rfl, hx⟩
    have HX := hid hx
    clear hx)
  go_ret
  exact ⟨rfl, HX.out⟩

end
end Go.Proofs.YtlmompdfombgeabGreat
