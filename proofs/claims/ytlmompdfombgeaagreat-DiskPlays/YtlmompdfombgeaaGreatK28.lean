import Derived.Test.YtlmompdfombgeaaGreatK27
import Derived.Test.YtlmompdfombgeaaGreatK26
import Derived.Deep.CutRange
namespace Go.Proofs.YtlmompdfombgeaaGreat
open Go.RowKit Go.MapKept

theorem setF_off {f' : Fi} : ∀ {l : List Fi}, (∀ g ∈ l, g.no ≠ f'.no) → setF f' l = l
  | [], _ => rfl
  | x :: l, h => by
    have h2 := setF_off (f' := f') (l := l) fun g hg => h g (List.mem_cons_of_mem _ hg)
    unfold setF at h2 ⊢
    rw [List.map_cons, h2, if_neg (h x (List.mem_cons_self ..))]

/-- Two cells of one file in the row of all. -/
theorem fm_set (F : Fi → List Value) (hF : ∀ g, (F g).length = 3) (b c x0 x1 x2 : Value) : ∀ (l : List Fi) (i : Nat) (f f' : Fi), l[i]? = some f → F f = [x0, x1, x2] → f'.no = f.no → (l.map Fi.no).Nodup →
    (setF f' l).flatMap (fun g => if g.no = f.no then [x0, b, c] else F g) = ((l.flatMap F).set (i * 3 + 1) b).set (i * 3 + 2) c
  | [], i, f, f', h, _, _, _ => by simp at h
  | x :: l, 0, f, f', h, hx, hn, hd => by
    simp at h
    subst h
    rw [List.map_cons, List.nodup_cons] at hd
    have hne : ∀ g ∈ l, g.no ≠ x.no := fun g hg e => hd.1 (e ▸ List.mem_map_of_mem hg)
    have h1 : setF f' (x :: l) = f' :: setF f' l := by unfold setF; rw [List.map_cons, if_pos hn.symm]
    rw [h1, setF_off (fun g hg => by rw [hn]; exact hne g hg), List.flatMap_cons, if_pos hn, List.flatMap_cons, hx, fm_congr (g := F) fun g hg => if_neg (hne g hg)]
    rfl
  | x :: l, i + 1, f, f', h, hx, hn, hd => by
    rw [List.map_cons, List.nodup_cons] at hd
    have h2 : l[i]? = some f := by simpa using h
    have hne : x.no ≠ f.no := fun e => hd.1 (e ▸ List.mem_map_of_mem (List.mem_of_getElem? h2))
    have ih := fm_set F hF b c x0 x1 x2 l i f f' h2 hx hn hd.2
    have h1 : setF f' (x :: l) = x :: setF f' l := by unfold setF; rw [List.map_cons, if_neg (by rw [hn]; exact hne)]
    rw [h1, List.flatMap_cons, if_neg hne, ih, List.flatMap_cons]
    have e1 : (i + 1) * 3 + 1 = (F x).length + (i * 3 + 1) := by rw [hF]; omega
    have e2 : (i + 1) * 3 + 2 = (F x).length + (i * 3 + 2) := by rw [hF]; omega
    rw [e1, e2, List.set_append_right _ _ (by omega), List.set_append_right _ _ (by omega)]
    simp

section
variable {w w' : World} {r : Nat} {R : Rt} {D : Dq} {n : Nat}

/-- One file is another. -/
theorem RdT.setF (h : RdT w r R D) {f f' : Fi} (hf : f ∈ D.files) (hno : f'.no = f.no) {bv' pv' : Value} {ps' : List (Chg × Value)} (hd : w'.heap[r]? = w.heap[r]?)
    (hl : w'.ownsRow 0 141 3 R.lv D.files.length ((setF f' D.files).flatMap fun g => if g.no = f.no then [.int .i64 f.no, bv', pv'] else rfcs R g))
    (hk : Kept (fun q => R.lv.ownBlock = some q ∨ (R.pv f.no).ownBlock = some q) w w') (hs : Sn w' bv' f'.safe) (hp : w'.ownsRow 0 148 3 pv' f'.cs.length (ps'.flatMap ccs)) (hps : ps'.map Prod.fst = f'.cs)
    (hpd : ∀ p ∈ ps', p.2.oneCell' = true ∧ ∀ ys, p.1 = .inl ys → Sn w' p.2 ys)
    (hro : ∀ k, (bv'.ownBlock = some k ∨ ∃ p ∈ ps', p.2.ownBlock = some k) → R.ro k ∨ (w.heap.size ≤ k ∧ k < w'.heap.size))
    (hpv : ∀ k, pv'.ownBlock = some k → (R.pv f.no).ownBlock = some k ∨ w.heap.size ≤ k)
    (hne : ∀ k, (bv'.ownBlock = some k ∨ ∃ p ∈ ps', p.2.ownBlock = some k) → pv'.ownBlock ≠ some k) :
    ∃ R', RGoes r w R D w' R' { D with files := Go.Proofs.YtlmompdfombgeaaGreat.setF f' D.files } ∧ R'.sn = R.sn := by
  have hw1 : ∀ k, (R.lv.ownBlock = some k ∨ (R.pv f.no).ownBlock = some k) → R.wo k := fun k e => by
    rcases e with e | e
    · exact h.fl k e
    · exact h.fp f hf k e
  obtain ⟨o1, o2, o3, o4, o5⟩ := h.ros hk fun k e e2 => h.ap k e (hw1 k e2)
  have hsz := hk.size
  have hmem : ∀ g ∈ Go.Proofs.YtlmompdfombgeaaGreat.setF f' D.files, g = f' ∨ (g ∈ D.files ∧ g.no ≠ f.no) := fun g hg => by
    rcases mem_setF hg with ⟨e, _⟩ | ⟨e1, e2⟩
    · exact .inl e
    · exact .inr ⟨e1, by rw [← hno]; exact e2⟩
  have hlen : (Go.Proofs.YtlmompdfombgeaaGreat.setF f' D.files).length = D.files.length := by unfold Go.Proofs.YtlmompdfombgeaaGreat.setF; rw [List.length_map]
  refine ⟨{ R with bv := fun m => if m = f.no then bv' else R.bv m, pv := fun m => if m = f.no then pv' else R.pv m, ps := fun m => if m = f.no then ps' else R.ps m, ro := fun k => R.ro k ∨ bv'.ownBlock = some k ∨ ∃ p ∈ ps', p.2.ownBlock = some k, wo := fun k => R.wo k ∨ pv'.ownBlock = some k }, ⟨⟨?_, ?_, o1, h.ns, ?_, ?_, ?_, ?_, ?_, ?_, o4, o5, fun k e => .inl (h.fl k e), fun k e => .inl (h.fn k e), fun k e => .inl (h.fu k e), fun k e => .inl (h.f1 k e), fun k e => .inl (h.f2 k e), ?_, ?_, ?_, ?_, ?_, ?_, ?_⟩, ?_, ?_⟩, rfl⟩
  · rw [hd]; exact h.disk
  · show w'.ownsRow 0 141 3 R.lv (Go.Proofs.YtlmompdfombgeaaGreat.setF f' D.files).length _
    rw [hlen]
    have e : (Go.Proofs.YtlmompdfombgeaaGreat.setF f' D.files).flatMap (rfcs { R with bv := fun m => if m = f.no then bv' else R.bv m, pv := fun m => if m = f.no then pv' else R.pv m, ps := fun m => if m = f.no then ps' else R.ps m, ro := fun k => R.ro k ∨ bv'.ownBlock = some k ∨ ∃ p ∈ ps', p.2.ownBlock = some k, wo := fun k => R.wo k ∨ pv'.ownBlock = some k }) = (Go.Proofs.YtlmompdfombgeaaGreat.setF f' D.files).flatMap fun g => if g.no = f.no then [.int .i64 f.no, bv', pv'] else rfcs R g := fm_congr fun g hg => by
      by_cases hq : g.no = f.no
      · rw [if_pos hq]; simp [rfcs, hq]
      · rw [if_neg hq]; simp [rfcs, hq]
    rw [e]
    exact hl
  · exact ownsRow_kept h.tur hk fun k e e2 => by
      rcases e2 with e2 | e2
      · exact owns_ne h.tur h.lis (by decide) k e e2
      · exact owns_ne h.tur (h.pen f hf) (by decide) k e e2
  · intro g hg
    rcases hmem g hg with rfl | ⟨h1, h2⟩
    · dsimp only; rw [if_pos hno]; exact hs
    · dsimp only; rw [if_neg h2]; exact o2 g h1
  · intro g hg
    rcases hmem g hg with rfl | ⟨h1, h2⟩
    · dsimp only; rw [if_pos hno, if_pos hno]; exact hp
    · dsimp only; rw [if_neg h2, if_neg h2]
      exact ownsRow_kept (h.pen g h1) hk fun k e e2 => by
        rcases e2 with e2 | e2
        · exact owns_ne (h.pen g h1) h.lis (by decide) k e e2
        · exact h.dis f hf g h1 (fun e => h2 e.symm) k e2 e
  · intro g hg
    rcases hmem g hg with rfl | ⟨h1, h2⟩
    · dsimp only; rw [if_pos hno]; exact hps
    · dsimp only; rw [if_neg h2]; exact h.pfs g h1
  · intro g hg p hpp
    rcases hmem g hg with rfl | ⟨h1, h2⟩
    · dsimp only at hpp; rw [if_pos hno] at hpp; exact hpd p hpp
    · dsimp only at hpp; rw [if_neg h2] at hpp; exact o3 g h1 p hpp
  · intro g hg q hq hgq k
    rcases hmem g hg with rfl | ⟨h1, h2⟩
    · rcases hmem q hq with rfl | ⟨h3, h4⟩
      · exact absurd rfl hgq
      · dsimp only; rw [if_pos hno, if_neg h4]
        intro e e2
        rcases hpv k e with e3 | e3
        · exact h.dis f hf q h3 (fun e => h4 e.symm) k e3 e2
        · have := h.lt k (.inr (h.fp q h3 k e2)); omega
    · rcases hmem q hq with rfl | ⟨h3, h4⟩
      · dsimp only; rw [if_pos hno, if_neg h2]
        intro e e2
        rcases hpv k e2 with e3 | e3
        · exact h.dis g h1 f hf h2 k e e3
        · have := h.lt k (.inr (h.fp g h1 k e)); omega
      · dsimp only; rw [if_neg h2, if_neg h4]; exact h.dis g h1 q h3 hgq k
  · intro g hg k e
    rcases hmem g hg with rfl | ⟨h1, h2⟩
    · dsimp only at e; rw [if_pos hno] at e; exact .inr (.inl e)
    · dsimp only at e; rw [if_neg h2] at e; exact .inl (h.fb g h1 k e)
  · intro g hg k e
    rcases hmem g hg with rfl | ⟨h1, h2⟩
    · dsimp only at e; rw [if_pos hno] at e; exact .inr e
    · dsimp only at e; rw [if_neg h2] at e; exact .inl (h.fp g h1 k e)
  · intro g hg p hpp k e
    rcases hmem g hg with rfl | ⟨h1, h2⟩
    · dsimp only at hpp; rw [if_pos hno] at hpp; exact .inr (.inr ⟨p, hpp, e⟩)
    · dsimp only at hpp; rw [if_neg h2] at hpp; exact .inl (h.fd g h1 p hpp k e)
  · rintro k (e | e) (e2 | e2)
    · exact h.ap k e e2
    · rcases hpv k e2 with e3 | e3
      · exact h.ap k e (h.fp f hf k e3)
      · have := h.lt k (.inl e); omega
    · rcases hro k e with e3 | ⟨e3, _⟩
      · exact h.ap k e3 e2
      · have := h.lt k (.inr e2); omega
    · exact hne k e e2
  · rintro (e | e)
    · exact h.r1 e
    · rcases hro r e with e3 | ⟨e3, _⟩
      · exact h.r1 e3
      · have := hp_lt h.disk; omega
  · rintro (e | e)
    · exact h.r2 e
    · rcases hpv r e with e3 | e3
      · exact h.r2 (h.fp f hf r e3)
      · have := hp_lt h.disk; omega
  · rintro k ((e | e) | (e | e))
    · exact Nat.lt_of_lt_of_le (h.lt k (.inl e)) hsz
    · rcases hro k e with e3 | ⟨_, e3⟩
      · exact Nat.lt_of_lt_of_le (h.lt k (.inl e3)) hsz
      · exact e3
    · exact Nat.lt_of_lt_of_le (h.lt k (.inr e)) hsz
    · exact (hp.lt k e).2
  · exact hk.mono fun k _ e => .inr (.inr (hw1 k e))
  · rintro k (e | (e | e) | (e | e))
    · exact .inl (.inl e)
    · exact .inl (.inr (.inl e))
    · rcases hro k e with e3 | ⟨e3, _⟩
      · exact .inl (.inr (.inl e3))
      · exact .inr e3
    · exact .inl (.inr (.inr e))
    · rcases hpv k e with e3 | e3
      · exact .inl (.inr (.inr (h.fp f hf k e3)))
      · exact .inr e3

end

end Go.Proofs.YtlmompdfombgeaaGreat

namespace Go.Proofs.YtlmompdfombgeaaGreat
open Go.RowKit Go.MapKept

section
variable {w w' : World} {r : Nat} {R : Rt} {D : Dq} {n : Nat}

/-- A change of names that was appended, and its header stored. -/
theorem RdT.turned (h : RdT w r R D) (x : Nmg) {at' : Option Addr} {ct : Nat} (hv : R.tv = .slice at' D.turns.length ct) {o : Obj} {a : Option Addr} {c : Nat} (hown : w'.ownsRow 0 146 4 (.slice a (D.turns.length + 1) c) (D.turns.length + 1) (D.turns.flatMap tncs ++ tncs x)) (hg : (w.alloc o).grownBy w' (Value.slice at' D.turns.length ct).ownBlock)
    (hob : (Value.slice a (D.turns.length + 1) c).ownBlock = (Value.slice at' D.turns.length ct).ownBlock ∨ (Value.slice a (D.turns.length + 1) c).ownBlock = some (w.alloc o).heap.size) :
    w'.cell? ⟨r, 5, none⟩ = some (.slice at' D.turns.length ct) ∧ (∀ i, w'.frozen? ⟨r, i, none⟩ = false) ∧ ∃ R', RGoes r w R D (w'.setCell ⟨r, 5, none⟩ (.slice a (D.turns.length + 1) c)) R' { D with turns := D.turns ++ [x] } := by
  have hk : Kept (fun q => (Value.slice at' D.turns.length ct).ownBlock = some q) w w' := ((Kept.refl _ w).alloc o).grown hg (fun _ _ e => e)
  have hn : ¬ (Value.slice at' D.turns.length ct).ownBlock = some r := fun e => h.r2 (h.fu r (by rw [hv]; exact e))
  have hd := hp_kept h.disk hk hn
  refine ⟨by rw [cell_of_row _ _ _ _ _ _ hd]; rw [hv]; rfl, fun i => free_of_block hd, ?_⟩
  have hk7 : Kept (fun q => q = r ∨ R.tv.ownBlock = some q) w (w'.setCell ⟨r, 5, none⟩ (.slice a (D.turns.length + 1) c)) := (hk.mono (S' := fun q => q = r ∨ R.tv.ownBlock = some q) (fun q _ e => .inr (by rw [hv]; exact e))).setCell (p := ⟨r, 5, none⟩) (fun _ => .inl rfl) _
  have ho7 := ownsRow_kept hown ((Kept.refl (fun q => q = r) w').setCell (p := ⟨r, 5, none⟩) (fun _ => rfl) (.slice a (D.turns.length + 1) c)) (fun q e e2 => by
    obtain ⟨cu, h1⟩ := owns_ty hown e
    rw [e2, hd] at h1
    injection h1 with h1
    injection h1 with _ h1
    exact absurd h1 (by decide))
  exact h.addT x (set_block (i := 5) hd (.slice a (D.turns.length + 1) c)) ho7 hk7 (fun q e => by
    rcases hob with e2 | e2
    · left; have e3 := e2.symm.trans e; rw [hv]; exact e3
    · right; rw [e2] at e; injection e with e; rw [← e]; simp)

theorem Tryz.info146 : (Tryz.prog.info? 146).map (fun i => (i.zero, i.size, i.bytes)) = some (some (.agg #[.int .i64 0, .string { data := #[] }, .string { data := #[] }, .int .i64 0]), 4, 48) := by kernel_rfl

theorem emp_empty : ((⟨#[]⟩ : ByteArray).toList).isEmpty = true := by rw [Lib.toList_data]; rfl

theorem tncs_create (nm : ByteArray) (m : Int) : tncs (⟨#[]⟩, nm, m) = [.int .i64 1, .string nm, .string { data := #[] }, .int .i64 m] := by
  unfold tncs
  rw [if_pos emp_empty]

theorem tncs_remove {nm : ByteArray} (h : nm.toList.isEmpty = false) (m : Int) : tncs (nm, ⟨#[]⟩, m) = [.int .i64 3, .string nm, .string { data := #[] }, .int .i64 0] := by
  unfold tncs
  rw [if_neg (by rw [h]; decide), if_pos emp_empty]

theorem tncs_rename {nm mn : ByteArray} (h : nm.toList.isEmpty = false) (h2 : mn.toList.isEmpty = false) (m : Int) : tncs (nm, mn, m) = [.int .i64 2, .string nm, .string mn, .int .i64 0] := by
  unfold tncs
  rw [if_neg (by rw [h]; decide), if_neg (by rw [h2]; decide)]

theorem ones4g (k : Int) (a b : ByteArray) (m : Int) : ∀ u ∈ (#[Value.int .i64 k, .string a, .string b, .int .i64 m] : Array Value).toList, u.oneCell' = true := by
  intro u hu
  simp at hu
  rcases hu with rfl | rfl | rfl | rfl <;> rfl

theorem pre1_zero {nm : ByteArray} (h : pre1 D nm false 0 = 0) : D.off = false ∧ nmOK nm = true := by
  unfold pre1 at h
  cases ho : D.off
  · rw [ho] at h
    cases hk : nmOK nm
    · rw [hk] at h; simp at h
    · exact ⟨rfl, rfl⟩
  · rw [ho] at h; simp at h

set_option maxRecDepth 100000 in
set_option maxHeartbeats 3200000 in
theorem remove_r (h : RdT w r R D) (hW : WD n D) (hn : n ≤ 90000) (hT : TOK D) (hl : D.fs.length ≤ 300) (nm : ByteArray) (hs : nm.size ≤ maxLen) :
    Calls Tryz.prog 58 #[.pointer (some ⟨r, 0, none⟩), .string nm] w fun e w' => e = .returned (.int .i64 (remP D nm).1) ∧ ∃ R', RGoes r w R D w' R' (remP D nm).2 := by
  have HK := hid (known_r h hW (by omega) hT nm hs)
  have H := hid h
  by_cases q0 : pre1 D nm false 0 = 0
  · rw [q0] at HK
    obtain ⟨q2, q3⟩ := pre1_zero q0
    have HS := hid (fun (W : World) (hb : Below w.heap.size w W) => stroke_r (h.below hb) hW (by omega) hl q2)
    have htl : D.turns.length ≤ 100000 := by have h1 := hW.tur; omega
    by_cases hf : fe (fo D.fs (D.st + 1)) = 0
    · have hp : remP D nm = (0, { cntS D with turns := D.turns ++ [(nm, ⟨#[]⟩, 0)] }) := by simp [remP, strokeP, q0, hf, remK, turnD]; rfl
      rw [hp]
      rw [hf] at HS
      have HTN := hid (tncs_remove (nmOK_ne q3) 0)
      clear h hp q0 q2 q3 hf
      go_enter Tryz.func58, Tryz.ntmps58
      go_upto_region 7 with (first
        | (go_at_call 103
           refine HK.out.mono ?_
           rintro e w1 ⟨⟨i, rfl, -⟩, hb1⟩
           have H1 := hid hb1
           clear hb1)
        | (go_at_call 104
           refine (HS.out _ H1.out).mono ?_
           rintro e w2 ⟨rfl, hr2, hk2⟩
           have H2 := hid (And.intro hr2 hk2)
           obtain ⟨c0, c1, c2, c3, c4, c5, c6, c7, c8, c9, c10⟩ := hr2.cells
           obtain ⟨at2, ct2, htv⟩ := own_shape hr2.tur
           rw [htv] at c5
           have HTV := hid htv
           clear hr2 hk2 htv c0 c1 c2 c3 c4 c6 c7 c8 c9 c10))
      replace c5 := (show w2.cell? ⟨r, 5, none⟩ = some (.slice at2 D.turns.length ct2) from c5)
      have HOT := hid (show w2.ownsRow 0 146 4 (.slice at2 D.turns.length ct2) D.turns.length (D.turns.flatMap tncs) by have := H2.out.1.tur; rw [HTV.out] at this; exact this)
      go_wp2_with (
        at_builtin
        refine wpList_append_rf _ rfl (.tmp 25) (.tmp 28) 56 146 _ 4 48 rfl Tryz.underlying56 Tryz.info146 rfl (by omega) 0 (.slice at2 D.turns.length ct2) D.turns.length _ rfl (HOT.out.alloc _) (.slice (some ⟨w2.heap.size, 0, none⟩) 1 1) 1 [.int .i64 3, .string nm, .string { data := #[] }, .int .i64 0] rfl (rf_new w2 146 #[.int .i64 3, .string nm, .string { data := #[] }, .int .i64 0] 4 rfl (ones4g _ _ _ _)) (by omega) (by unfold maxLen; omega) (Nat.zero_le _) ?_
        intro a9 c9 w9 hown hgr hob
        obtain ⟨s1, s3, hR⟩ := H2.out.1.turned (nm, ⟨#[]⟩, 0) HTV.out (by rw [HTN.out]; exact hown.out) hgr.out hob.out
        have H9 := hid hR
        clear hown hgr hob hR)
      go_ret
      obtain ⟨R9, hg9⟩ := H9.out
      exact ⟨rfl, R9, ((RGoes.still H.out H1.out).trans ⟨H2.out.1, H2.out.2.mono (fun _ _ e => .inl e), fun _ e => .inl e⟩).trans hg9⟩
    · have hp : remP D nm = (fe (fo D.fs (D.st + 1)), cntS D) := by simp [remP, strokeP, q0, hf]
      rw [hp]
      have hb0 : (fe (fo D.fs (D.st + 1)) == 0) = false := by simpa using hf
      clear h hp q0 q2 q3 hf
      generalize fe (fo D.fs (D.st + 1)) = er at HS hb0 ⊢
      go_enter Tryz.func58, Tryz.ntmps58
      go_wp2_with (first
        | (go_at_call 103
           refine HK.out.mono ?_
           rintro e w1 ⟨⟨i, rfl, -⟩, hb1⟩
           have H1 := hid hb1
           clear hb1)
        | (go_at_call 104
           refine (HS.out _ H1.out).mono ?_
           rintro e w2 ⟨rfl, hr2, hk2⟩
           have H2 := hid (And.intro hr2 hk2)
           clear hr2 hk2))
      go_ret
      exact ⟨rfl, R, (RGoes.still H.out H1.out).trans ⟨H2.out.1, H2.out.2.mono (fun _ _ e => .inl e), fun _ e => .inl e⟩⟩
  · have hp : remP D nm = (pre1 D nm false 0, D) := by simp [remP, strokeP, q0]
    rw [hp]
    have hb0 : (pre1 D nm false 0 == 0) = false := by simpa using q0
    clear h hp q0
    generalize pre1 D nm false 0 = er at HK hb0 ⊢
    go_enter Tryz.func58, Tryz.ntmps58
    go_wp2_with (
      go_at_call 103
      refine HK.out.mono ?_
      rintro e w1 ⟨⟨i, rfl, -⟩, hb1⟩
      have H1 := hid hb1
      clear hb1)
    go_ret
    exact ⟨rfl, R, RGoes.still H.out H1.out⟩

end

end Go.Proofs.YtlmompdfombgeaaGreat

namespace Go.Proofs.YtlmompdfombgeaaGreat
open Go.RowKit Go.MapKept

section
variable {w w' : World} {r : Nat} {R : Rt} {D : Dq} {n : Nat}

/-- A reading counted, and what the plan says of it. -/
theorem RdT.counted (h : RdT w r R D) (hl : D.fr.length ≤ 300) : ∃ ao cp, R.rv = .slice ao D.fr.length cp ∧ RdT (w.setCell ⟨r, 9, none⟩ (.int .i64 (D.rd + 1))) r R { D with rd := D.rd + 1 } ∧ Kept (fun k => k = r) w (w.setCell ⟨r, 9, none⟩ (.int .i64 (D.rd + 1))) ∧
    Calls Tryz.prog 110 #[.slice ao D.fr.length cp, .int .i64 (D.rd + 1)] (w.setCell ⟨r, 9, none⟩ (.int .i64 (D.rd + 1))).drew fun x w1 => x = .returned (.int .i64 (fo D.fr (D.rd + 1))) ∧ RdT w1 r R { D with rd := D.rd + 1 } ∧ Kept (fun k => k = r) w w1 := by
  have hk2 : Kept (fun k => k = r) w (w.setCell ⟨r, 9, none⟩ (.int .i64 (D.rd + 1))) := (Kept.refl (fun k => k = r) w).setCell (p := ⟨r, 9, none⟩) (fun _ => rfl) _
  have h2 : RdT (w.setCell ⟨r, 9, none⟩ (.int .i64 (D.rd + 1))) r R { D with rd := D.rd + 1 } := h.head hk2 h.only (set_block (i := 9) h.disk _) rfl rfl rfl rfl rfl
  obtain ⟨ao, cp, hsv, hc1, hc2⟩ := h.fr.shape
  refine ⟨ao, cp, hsv, h2, hk2, ?_⟩
  have hbd : Below (w.setCell ⟨r, 9, none⟩ (.int .i64 (D.rd + 1))).heap.size (w.setCell ⟨r, 9, none⟩ (.int .i64 (D.rd + 1))) (w.setCell ⟨r, 9, none⟩ (.int .i64 (D.rd + 1))).drew := ⟨rfl, rfl, rfl, Nat.le_refl _, fun _ _ => rfl⟩
  have h3 := h2.below hbd
  refine (fault_any (.slice ao D.fr.length cp) D.fr (D.rd + 1) _ (hsv ▸ h3.fr) (by omega)).mono ?_
  rintro e w1 ⟨rfl, nn, rfl⟩
  have hb4 := below_drewN (Below.refl (w.setCell ⟨r, 9, none⟩ (.int .i64 (D.rd + 1))).drew.heap.size (w.setCell ⟨r, 9, none⟩ (.int .i64 (D.rd + 1))).drew) nn
  exact ⟨rfl, h3.below hb4, ⟨hk2.os, hk2.tape, hk2.output, hk2.size, hk2.block⟩⟩

theorem cntR_WD (h : WD n D) : WD (n + 1) (cntR D) :=
  ⟨h.room, h.lim, ⟨h.made.1, by have := h.made.2; simp [cntR]; omega⟩, h.asc, h.rng, h.cnt, h.hld, h.saf, by have := h.tur; simp [cntR]; omega, fun f hf => ⟨by have := (h.chg f hf).1; omega, (h.chg f hf).2⟩, ⟨h.st.1, by have := h.st.2; simp [cntR]; omega⟩, ⟨by have := h.rd.1; simp [cntR]; omega, by have := h.rd.2; simp [cntR]; omega⟩⟩

set_option maxRecDepth 100000 in
set_option maxHeartbeats 3200000 in
theorem read_r (h : RdT w r R D) (hW : WD n D) (hn : n ≤ 90000) (hT : TOK D) (hl : D.fr.length ≤ 300) (nm : ByteArray) (hs : nm.size ≤ maxLen) :
    Calls Tryz.prog 59 #[.pointer (some ⟨r, 0, none⟩), .string nm] w fun e w' => ∃ v, e = .returned (.tuple #[v, .int .i64 (readP D nm).2.1]) ∧ Sl w' v (readP D nm).1 ∧ RdT w' r R (readP D nm).2.2 ∧ Kept (fun k => k = r) w w' := by
  have HK := hid (known_r h hW (by omega) hT nm hs)
  have H := hid h
  by_cases q0 : pre1 D nm false 0 = 0
  · obtain ⟨q2, q3⟩ := pre1_zero q0
    have hrd := hW.rd
    have hr := fo_range D.fr (D.rd + 1)
    rw [q0] at HK
    have HO := hid q2
    have HR := hid hr
    have HC := hid (fun (W : World) (hb : Below w.heap.size w W) => (h.below hb).counted hl)
    by_cases hf : fe (fo D.fr (D.rd + 1)) = 0
    · have hp : readP D nm = (((D.look nm).map fun f => f.row.1).getD [], 0, cntR D) := by simp [readP, q0, hf]
      rw [hp]
      have HF := hid hf
      clear h hp q2 q3 hf hr
      go_enter Tryz.func59, Tryz.ntmps59
      go_upto_region 4 with (
        go_at_call 103
        refine HK.out.mono ?_
        rintro e w1 ⟨⟨i, rfl, hi⟩, hb1⟩
        obtain ⟨f, hlk, hfi⟩ := hi rfl
        have H1 := hid (And.intro hb1 (And.intro hlk hfi))
        clear hb1 hi hlk hfi)
      have hr1 := H.out.below H1.out.1
      obtain ⟨c0, c1, c2, c3, c4, c5, c6, c7, c8, c9, c10⟩ := hr1.cells
      have hfz := hr1.free
      obtain ⟨ao, cp, hrv, hr2, hk2, hca⟩ := HC.out w1 H1.out.1
      rw [hrv] at c7
      have H2 := hid (And.intro hr2 hk2)
      have HCA := hid hca
      clear hr1 hrv hr2 hk2 hca c0 c1 c2 c3 c4 c5 c6 c8 c10
      go_upto_region 5 with fail
      go_cut [7] from 8 (fun v7 wc => v7 = .int .i64 0 ∧ Hid (RdT wc r R (cntR D) ∧ Kept (fun k => k = r) w1 wc))
      case first =>
        go_region_with (
          first
          | (go_at_call 110
             (
             refine HCA.out.mono ?_
             rintro e w3 ⟨rfl, hd⟩
             have HD := hid hd
             clear hd))
          | (go_at_call 109
             refine (fails_r HD.out.1 HO.out _ HR.out).mono ?_
             rintro e w4 ⟨rfl, hb4, hk4⟩
             have H4 := hid (And.intro hb4 (HD.out.2.trans hk4 (fun _ _ e => e)))
             clear hb4 hk4))
        all_goals
          go_wp2_with fail
          go_meet
          case rel => exact ⟨by rw [HF.out], H4⟩
      case rest =>
        obtain ⟨rfl, H5⟩ := hcut
        rename World => W5
        clear c7 c9 hfz H2 HCA
        obtain ⟨-, -, -, c3, -, -, -, -, -, -, -⟩ := H5.out.1.cells
        obtain ⟨al, cl, hlv⟩ := own_shape H5.out.1.lis
        have hrf := H5.out.1.fat
        rw [hlv] at c3 hrf
        have hil : i < D.files.length := (List.getElem?_eq_some_iff.1 H1.out.2.2).1
        obtain ⟨b, ofs, cap', e, -, -, hcell⟩ := Rf.elem (f := rfcs R) (fun _ => rfl) (by omega) hrf i hil
        injection e with e1 e2 e3
        subst e1 e3
        clear e2 hrf
        have hfe : (cntR D).files[i] = f := by have := H1.out.2.2; rw [List.getElem?_eq_getElem hil] at this; exact Option.some.inj this
        rw [hfe] at hcell
        have hmem : f ∈ D.files := List.mem_of_getElem? H1.out.2.2
        obtain ⟨ap, cp2, hpv⟩ := own_shape (H5.out.1.pen f hmem)
        have y0 := (show W5.cell? ⟨b, ofs + i * 3, none⟩ = some (.int .i64 f.no) from hcell 0 _ rfl)
        have y1 := (show W5.cell? ⟨b, ofs + i * 3 + 1, none⟩ = some (R.bv f.no) from hcell 1 _ rfl)
        have y2 := (show W5.cell? ⟨b, ofs + i * 3 + 2, none⟩ = some (R.pv f.no) from hcell 2 _ rfl)
        obtain ⟨abv, cbv, hbv, -, -⟩ := (H5.out.1.saf f hmem).1
        have hby := H5.out.1.byt_r (cntR_WD hW) (by omega) hmem f.cs.length (Nat.le_refl _)
        rw [hpv, hbv] at hby
        rw [hpv] at y2
        rw [hbv] at y1
        rw [List.take_of_length_le (Nat.le_refl _)] at hby
        have HBY := hid hby
        have i1 : (i : Int) < (D.files.length : Int) := by omega
        replace c3 := (show W5.cell? ⟨r, 3, none⟩ = some (.slice (some ⟨b, ofs, none⟩) D.files.length cl) from c3)
        have hbd : Below W5.heap.size W5 W5.drew := ⟨rfl, rfl, rfl, Nat.le_refl _, fun _ _ => rfl⟩
        have HBD := hid hbd
        have HCC := hid (fun (W : World) (hb : Below W5.heap.size W5 W) => And.intro ((hb.cell (World.block_lt_of_cell? _ _ c3)).trans c3) (And.intro ((hb.cell (World.block_lt_of_cell? _ _ y0)).trans y0) (And.intro ((hb.cell (World.block_lt_of_cell? _ _ y1)).trans y1) ((hb.cell (World.block_lt_of_cell? _ _ y2)).trans y2))))
        have HMR := hid (show ((D.look nm).map fun f => f.row.1).getD [] = (rowC f.safe f.cs).1 by rw [H1.out.2.1]; rfl)
        clear hcell hfe hby hbd hlv hpv hbv
        go_upto_region 8 with fail
        go_region_held (fun wx => wx.cell? ⟨r, 3, none⟩ = some (.slice (some ⟨b, ofs, none⟩) D.files.length cl) ∧ wx.cell? ⟨b, ofs + i * 3, none⟩ = some (.int .i64 f.no) ∧ wx.cell? ⟨b, ofs + i * 3 + 1, none⟩ = some (.slice abv f.safe.length cbv) ∧ wx.cell? ⟨b, ofs + i * 3 + 2, none⟩ = some (.slice ap f.cs.length cp2)) (first | exact HCC.out _ HB6.out | exact HCC.out _ HBD.out) (first
          | (go_at_call 106
             refine (HBY.out _ HBD.out).mono ?_
             rintro e w6 ⟨v1, v2, rfl, hby6, hb6⟩
             have HB6 := hid (bel_on HBD.out hb6)
             have H6 := hid hby6
             clear hb6 hby6))
        go_wp2
        go_ret2
        refine ⟨_, rfl, ?_, H5.out.1.below HB6.out, ?_⟩
        · rw [HMR.out]
          exact sl_of_owns H6.out.a
        · exact (((Kept.ofBelow H1.out.1).mono (S' := fun k => k = r) (fun _ _ e => e.elim)).trans H5.out.2 (fun _ _ e => e)).trans (Kept.ofBelow HB6.out) (fun _ _ e => e.elim)
    · have hp : readP D nm = ([], fe (fo D.fr (D.rd + 1)), cntR D) := by simp [readP, q0, hf]
      rw [hp]
      have hb0 : (fe (fo D.fr (D.rd + 1)) == 0) = false := by simpa using hf
      clear h hp q2 q3 hf hr
      go_enter Tryz.func59, Tryz.ntmps59
      go_upto_region 4 with (
        go_at_call 103
        refine HK.out.mono ?_
        rintro e w1 ⟨⟨i, rfl, hi⟩, hb1⟩
        have H1 := hid hb1
        clear hb1 hi)
      have hr1 := H.out.below H1.out
      obtain ⟨c0, c1, c2, c3, c4, c5, c6, c7, c8, c9, c10⟩ := hr1.cells
      have hfz := hr1.free
      obtain ⟨ao, cp, hrv, hr2, hk2, hca⟩ := HC.out w1 H1.out
      rw [hrv] at c7
      have HCA := hid hca
      clear hr1 hrv hr2 hk2 hca c0 c1 c2 c3 c4 c5 c6 c8 c10
      go_upto_region 5 with fail
      generalize hq : fe (fo D.fr (D.rd + 1)) = er at hb0 ⊢
      have HE := hid hq
      clear hq
      go_cut [7] from 8 (fun v7 wc => v7 = .int .i64 er ∧ Hid (RdT wc r R (cntR D) ∧ Kept (fun k => k = r) w1 wc))
      case first =>
        go_region_with (
          first
          | (go_at_call 110
             (
             refine HCA.out.mono ?_
             rintro e w3 ⟨rfl, hd⟩
             have HD := hid hd
             clear hd))
          | (go_at_call 109
             refine (fails_r HD.out.1 HO.out _ HR.out).mono ?_
             rintro e w4 ⟨rfl, hb4, hk4⟩
             have H4 := hid (And.intro hb4 (HD.out.2.trans hk4 (fun _ _ e => e)))
             clear hb4 hk4))
        all_goals
          go_wp2_with fail
          go_meet
          case rel => exact ⟨by rw [HE.out], H4⟩
      case rest =>
        obtain ⟨rfl, H5⟩ := hcut
        go_wp2
        go_ret2
        refine ⟨_, (by rw [HE.out]; rfl), sl_none _, H5.out.1, ((Kept.ofBelow H1.out).mono (S' := fun k => k = r) (fun _ _ e => e.elim)).trans H5.out.2 (fun _ _ e => e)⟩
  · have hp : readP D nm = ([], pre1 D nm false 0, D) := by simp [readP, q0]
    rw [hp]
    have hb0 : (pre1 D nm false 0 == 0) = false := by simpa using q0
    clear h hp q0
    generalize pre1 D nm false 0 = er at HK hb0 ⊢
    go_enter Tryz.func59, Tryz.ntmps59
    go_wp2_with (
      go_at_call 103
      refine HK.out.mono ?_
      rintro e w1 ⟨⟨i, rfl, -⟩, hb1⟩
      have H1 := hid hb1
      clear hb1)
    go_ret2
    exact ⟨_, rfl, sl_none _, H.out.below H1.out, (Kept.ofBelow H1.out).mono (fun _ _ e => e.elim)⟩

end

end Go.Proofs.YtlmompdfombgeaaGreat
