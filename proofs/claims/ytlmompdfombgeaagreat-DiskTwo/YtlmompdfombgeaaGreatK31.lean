import Derived.Test.YtlmompdfombgeaaGreatK30
import Derived.Test.YtlmompdfombgeaaGreatK10
import Derived.Test.YtlmompdfombgeaaGreatK08
import Derived.Test.YtlmompdfombgeaaGreatK18
import Derived.Test.YtlmompdfombgeaaGreatK22
namespace Go.Proofs.YtlmompdfombgeaaGreat
open Go.RowKit Go.MapKept

set_option maxRecDepth 100000 in
set_option maxHeartbeats 1600000 in
theorem rfaults_own (v : Value) (fs : List (Int × Int)) (w : World) (h : Fl w v fs) (hl : fs.length ≤ 1000000) : Calls Tryz.prog 111 #[v] w fun x w' => ∃ a c, x = .returned (.slice a fs.length c) ∧ w'.ownsRow w.heap.size 154 2 (.slice a fs.length c) fs.length (fs.flatMap fcs) ∧ Below w.heap.size w w' := by
  obtain ⟨ao, cap, rfl, hc, hcm⟩ := h.shape
  have HF := hid h
  clear h hcm
  go_enter Tryz.func111, Tryz.ntmps111
  go_wp2_with (
    at_builtin
    go_loud (
      refine wpList_append_rf _ rfl _ _ 36 154 _ 2 16 rfl Tryz.underlying36 Tryz.info154 rfl (by omega) w.heap.size (.slice none 0 0) 0 [] rfl (owns_nil _ _ _ _) _ fs.length (fs.flatMap fcs) rfl HF.out (by omega) (by unfold maxLen; omega) (Nat.le_refl _) ?_
      intro ao' c' w1 ho hg hat))
  go_ret
  refine ⟨ao', c', by simp, ?_, (Below.refl _ _).grown hg.out (Nat.le_refl _) (fun k e => by simp [Value.ownBlock] at e)⟩
  simpa using ho.out

section
variable {w w' : World} {r : Nat} {R : Rt} {D : Dq} {n : Nat}

/-- Another plan. -/
theorem RdT.setP (h : RdT w r R D) {w2 : World} (hb : Below w.heap.size w w2) {sv rv : Value} {gs gr : List (Int × Int)} {st rd : Int} {off : Bool} (h1 : w2.ownsRow w.heap.size 154 2 sv gs.length (gs.flatMap fcs)) (h2 : w2.ownsRow w.heap.size 154 2 rv gr.length (gr.flatMap fcs)) (hk : Kept (fun q => q = r) w2 w')
    (hd : w'.heap[r]? = some (.cells #[.int .i64 D.room, .int .i64 D.limit, .int .i64 D.made, R.lv, R.nv, R.tv, sv, rv, .int .i64 st, .int .i64 rd, .bool off] 58 (0, 0))) :
    ∃ R', RGoes r w R D w' R' { D with fs := gs, fr := gr, st := st, rd := rd, off := off } ∧ R'.sn = R.sn ∧ Kept (fun q => q = r) w w' := by
  have hk2 : Kept (fun q => q = r) w w' := ((Kept.ofBelow hb).mono (S' := fun q => q = r) (fun _ _ e => e.elim)).trans hk (fun _ _ e => e)
  have hrl := hp_lt h.disk
  have hro : ∀ k, R.ro k → ¬ k = r := fun k e e2 => h.r1 (e2 ▸ e)
  obtain ⟨o1, o2, o3, o4, o5⟩ := h.ros hk2 hro
  have hn1 : ∀ k, sv.ownBlock = some k → ¬ k = r := fun k e e2 => by have := (h1.lt k e).1; omega
  have hn2 : ∀ k, rv.ownBlock = some k → ¬ k = r := fun k e e2 => by have := (h2.lt k e).1; omega
  refine ⟨{ R with sv := sv, rv := rv, ro := fun k => R.ro k ∨ sv.ownBlock = some k ∨ rv.ownBlock = some k }, ⟨⟨hd, ?_, o1, h.ns, ?_, o2, ?_, h.pfs, o3, h.dis, ?_, ?_, h.fl, fun k e => .inl (h.fn k e), h.fu, fun k e => .inr (.inl e), fun k e => .inr (.inr e), fun f hf k e => .inl (h.fb f hf k e), h.fp, fun f hf p hp k e => .inl (h.fd f hf p hp k e), ?_, ?_, h.r2, ?_⟩, hk2.mono fun k _ e => .inl e, ?_⟩, rfl, hk2⟩
  · exact ownsRow_kept h.lis hk2 fun k e e2 => h.r2 (e2 ▸ h.fl k e)
  · exact ownsRow_kept h.tur hk2 fun k e e2 => h.r2 (e2 ▸ h.fu k e)
  · intro f hf
    exact ownsRow_kept (h.pen f hf) hk2 fun k e e2 => h.r2 (e2 ▸ h.fp f hf k e)
  · exact rf_of_owns (ownsRow_kept h1 hk hn1) (fcs_one gs)
  · exact rf_of_owns (ownsRow_kept h2 hk hn2) (fcs_one gr)
  · rintro k (e | e | e) e2
    · exact h.ap k e e2
    · have := (h1.lt k e).1
      have := h.lt k (.inr e2)
      omega
    · have := (h2.lt k e).1
      have := h.lt k (.inr e2)
      omega
  · rintro (e | e | e)
    · exact h.r1 e
    · exact hn1 r e rfl
    · exact hn2 r e rfl
  · rintro k ((e | e | e) | e)
    · exact Nat.lt_of_lt_of_le (h.lt k (.inl e)) hk2.size
    · exact Nat.lt_of_lt_of_le (h1.lt k e).2 hk.size
    · exact Nat.lt_of_lt_of_le (h2.lt k e).2 hk.size
    · exact Nat.lt_of_lt_of_le (h.lt k (.inr e)) hk2.size
  · rintro k (e | (e | e | e) | e)
    · exact .inl (.inl e)
    · exact .inl (.inr (.inl e))
    · exact .inr (h1.lt k e).1
    · exact .inr (h2.lt k e).1
    · exact .inl (.inr (.inr e))

set_option maxRecDepth 100000 in
set_option maxHeartbeats 3200000 in
theorem plan_r (h : RdT w r R D) (sv rv : Value) (gs gr : List (Int × Int)) (h1 : Fl w sv gs) (h2 : Fl w rv gr) (l1 : gs.length ≤ 300) (l2 : gr.length ≤ 300) :
    Calls Tryz.prog 62 #[.pointer (some ⟨r, 0, none⟩), .agg #[sv, rv]] w fun x w' => x = .returned (.tuple #[]) ∧ ∃ R', RGoes r w R D w' R' (planD gs gr D) ∧ Kept (fun k => k = r) w w' := by
  obtain ⟨ao, cp, rfl, hc1, hc2⟩ := h1.shape
  obtain ⟨ar, cr, rfl, hc3, hc4⟩ := h2.shape
  have hrl := hp_lt h.disk
  have HX := hid (And.intro h (And.intro h1 h2))
  have hb0 : Below w.heap.size w (w.alloc (.cells #[.slice ao gs.length cp, .slice ar gr.length cr] 38)) := bel_al _ _
  have hc1' : Calls Tryz.prog 111 #[.slice ao gs.length cp] (w.alloc (.cells #[.slice ao gs.length cp, .slice ar gr.length cr] 38)).drew fun x w1 => ∃ a1 q1, x = .returned (.slice a1 gs.length q1) ∧ w1.ownsRow w.heap.size 154 2 (.slice a1 gs.length q1) gs.length (gs.flatMap fcs) ∧ Below w.heap.size w w1 ∧ w1.cell? ⟨w.heap.size, 1, none⟩ = some (.slice ar gr.length cr) := by
    refine (rfaults_own (.slice ao gs.length cp) gs (w.alloc (.cells #[.slice ao gs.length cp, .slice ar gr.length cr] 38)).drew (h1.below hb0.drew) (by omega)).mono ?_
    rintro e w1 ⟨a1, q1, rfl, hf1, hb1⟩
    have e : (w.alloc (.cells #[.slice ao gs.length cp, .slice ar gr.length cr] 38)).drew.heap.size = w.heap.size + 1 := by simp
    have hb1' : Below (w.heap.size + 1) (w.alloc (.cells #[.slice ao gs.length cp, .slice ar gr.length cr] 38)) w1 := by
      rw [e] at hb1
      exact ⟨hb1.os, hb1.tape, hb1.output, hb1.size, hb1.block⟩
    exact ⟨a1, q1, rfl, owns_mono hf1 (by rw [e]; omega), hb0.trans (hb1'.mono (by omega)), (hb1'.cell (by simp)).trans (by simp [go_sem])⟩
  have HC1 := hid hc1'
  clear hc1' h h1 h2 hb0
  go_enter Tryz.func62, Tryz.ntmps62
  go_wp2_with fail
  go_region_with (
    go_at_call 111
    first
    | ((with_reducible show Calls _ _ #[.slice ao gs.length cp] _ _)
       refine HC1.out.mono ?_
       rintro e w1 ⟨a1, q1, rfl, hf1, hb1, p1⟩
       have H1 := hid (And.intro hf1 hb1)
       clear hf1 hb1)
    | ((with_reducible show Calls _ _ #[.slice ar gr.length cr] _ _)
       refine (rfaults_own (.slice ar gr.length cr) gr w1 (HX.out.2.2.below H1.out.2) (by omega)).mono ?_
       rintro e w2 ⟨a2, q2, rfl, hf2, hb2⟩
       have hd2 := HX.out.1.below (bel_on H1.out.2 hb2)
       obtain ⟨-, -, -, -, -, -, d6, d7, d8, d9, d10⟩ := hd2.cells
       have df := hd2.free
       have H2 := hid (And.intro (ownsRow_kept H1.out.1 (Kept.ofBelow hb2) (fun _ _ e => e)) (And.intro (owns_mono hf2 H1.out.2.size) (And.intro (bel_on H1.out.2 hb2) hd2.disk)))
       clear hd2 hf2 hb2))
  all_goals
    go_wp2
    go_end0
    obtain ⟨hf1, hf2, hb2, hd2⟩ := H2.out
    obtain ⟨R', g1, -, g3⟩ := HX.out.1.setP hb2 hf1 hf2 (((((Kept.refl (fun k => k = r) w2).setCell (p := ⟨r, 6, none⟩) (fun _ => rfl) (.slice a1 gs.length q1)).setCell (p := ⟨r, 7, none⟩) (fun _ => rfl) (.slice a2 gr.length q2)).setCell (p := ⟨r, 8, none⟩) (fun _ => rfl) (.int .i64 0)).setCell (p := ⟨r, 9, none⟩) (fun _ => rfl) (.int .i64 0)) (set_block (i := 9) (set_block (i := 8) (set_block (i := 7) (set_block (i := 6) hd2 _) _) _) _)
    exact ⟨rfl, R', g1, g3⟩

set_option maxRecDepth 100000 in
theorem rround_any (v n : Int) (w : World) (hv : I64 v) (hn : 0 < n) (hn2 : n ≤ 1000000000) : Calls Tryz.prog 114 #[.int .i64 v, .int .i64 n] w fun x w' => x = .returned (.int .i64 (v % n)) ∧ w' = w := by
  obtain ⟨e1, e2, e3⟩ := round_eq v n hn
  obtain ⟨h0, h1⟩ := hv
  obtain ⟨q, hq⟩ : ∃ q, q = Int.tmod v n := ⟨_, rfl⟩
  rw [← hq] at e1 e2 e3
  have hne : ¬ n = 0 := by omega
  have hnb : (n == 0) = false := by simpa using hne
  by_cases hq0 : q < 0
  · have hr : v % n = q + n := by rw [← e1]; exact Int.emod_eq_of_lt (by omega) (by omega) |>.trans rfl
    have HR := hid hr
    have hm : Int.tmod v n = q := hq.symm
    clear e1 hr hq
    go_enter Tryz.func114, Tryz.ntmps114
    go_wp2
    go_ret
    exact ⟨by rw [HR.out]; go_num, rfl⟩
  · have hr : v % n = q := by
      rw [← e1, Int.add_emod_right]
      exact Int.emod_eq_of_lt (by omega) (by omega)
    have HR := hid hr
    have hm : Int.tmod v n = q := hq.symm
    clear e1 hr hq
    go_enter Tryz.func114, Tryz.ntmps114
    go_wp2
    go_ret
    exact ⟨by rw [HR.out]; rfl, rfl⟩

theorem rround_first (v : Int) (m : Nat) (w : World) (hv : I64 v) (hm : m ≤ 1000000) : Calls Tryz.prog 114 #[.int .i64 v, .int .i64 ((m : Int) + 1)] w fun x w' => x = .returned (.int .i64 (firstN v m)) ∧ w' = w := by
  refine (rround_any v ((m : Int) + 1) w hv (by omega) (by omega)).mono ?_
  rintro x w' ⟨rfl, rfl⟩
  refine ⟨?_, rfl⟩
  unfold firstN
  rw [Int.toNat_of_nonneg (Int.emod_nonneg _ (by omega))]

set_option maxRecDepth 100000 in
set_option maxHeartbeats 1600000 in
theorem texts_same {B B' : Nat} (a a' : Option Addr) (c c' : Nat) (l : List ByteArray) (w : World) (h : w.ownsRow B 9 1 (.slice a l.length c) l.length (l.map Value.string)) (h' : w.ownsRow B' 9 1 (.slice a' l.length c') l.length (l.map Value.string)) (hl : l.length ≤ 1000000) :
    Calls Tryz.prog 44 #[.slice a l.length c, .slice a' l.length c'] w fun x w' => x = .returned (.bool true) ∧ DN w w' := by
  have H := hid (And.intro h h')
  clear h h'
  go_enter Tryz.func44, Tryz.ntmps44
  go_wp2
  go_loopw [5] (fun i wr => ∃ k : Nat, k ≤ l.length ∧ i = .int .i64 k ∧ DN w wr) (fun i _ => l.length - (intOf i).toNat)
  case atStart => exact ⟨0, Nat.zero_le _, by go_num, DN.refl w⟩
  case round =>
    obtain ⟨k, hk1, rfl, hdn⟩ := hrel
    by_cases hlt : k < l.length
    · obtain ⟨g, cp, e⟩ := own_some H.out.1 (by omega)
      injection e with e _ e'
      subst e e'
      obtain ⟨g', cp', e⟩ := own_some H.out.2 (by omega)
      injection e with e _ e'
      subst e e'
      have hg : (l.map Value.string)[k]? = some (.string l[k]) := by simp [hlt]
      have q1 := H.out.1.cells (g := g) rfl _ _ hg
      have q2 := H.out.2.cells (g := g') rfl _ _ hg
      rw [add_lit, Nat.zero_add] at q1 q2
      obtain ⟨x, hx⟩ : ∃ x, x = l[k] := ⟨_, rfl⟩
      rw [← hx] at q1 q2
      have c1 := (hdn.cell _).trans q1
      have c2 := (hdn.cell _).trans q2
      have i1 : (k : Int) < (l.length : Int) := by omega
      have hne : (!(x.toList == x.toList)) = false := by simp
      clear hx q1 q2 hg
      go_wp2_with fail
      try go_quiet (fail)
      go_wp2
      go_roundw
      case rel => first | exact ⟨k + 1, by omega, by go_num, hdn.more _⟩ | exact ⟨k + 1, by omega, by go_num, hdn⟩ | ((repeat apply Exists.intro); exact ⟨⟨k + 1, by omega, by go_num, hdn.more _⟩, rfl⟩) | ((repeat apply Exists.intro); exact ⟨⟨k + 1, by omega, by go_num, hdn⟩, rfl⟩)
      case measure => simp [intOf]; omega
    · have i2 : ¬ (k : Int) < (l.length : Int) := by omega
      go_wp2
      go_ret
      exact ⟨rfl, hdn⟩

end

end Go.Proofs.YtlmompdfombgeaaGreat

namespace Go.Proofs.YtlmompdfombgeaaGreat
open Go.RowKit Go.MapKept

section
variable {w w' : World} {r : Nat} {R : Rt} {D : Dq} {n : Nat}

/-- A row anew, with a file more. -/
theorem RdT.addC (h : RdT w r R D) (no : Int) (hno : ∀ f ∈ D.files, f.no ≠ no) {w1 : World} (hb : Below w.heap.size w w1) {v' bv' : Value} {xs : List Int} (hown : w1.ownsRow w.heap.size 141 3 v' (D.files.length + 1) (D.files.flatMap (rfcs R) ++ [.int .i64 no, bv', .slice none 0 0])) (ho : w1.ownsRow w.heap.size 5 1 bv' xs.length (B8 xs)) (hk : Kept (fun q => q = r) w1 w')
    (hd : w'.heap[r]? = some (.cells #[.int .i64 D.room, .int .i64 D.limit, .int .i64 D.made, v', R.nv, R.tv, R.sv, R.rv, .int .i64 D.st, .int .i64 D.rd, .bool D.off] 58 (0, 0))) :
    ∃ R', RGoes r w R D w' R' { D with files := D.files ++ [⟨no, xs, []⟩] } ∧ R'.sn = R.sn ∧ SmR R R' ∧ Kept (fun q => q = r) w w' := by
  have hk2 : Kept (fun q => q = r) w w' := ((Kept.ofBelow hb).mono (S' := fun q => q = r) (fun _ _ e => e.elim)).trans hk (fun _ _ e => e)
  have hrl := hp_lt h.disk
  have hro : ∀ k, R.ro k → ¬ k = r := fun k e e2 => h.r1 (e2 ▸ e)
  obtain ⟨o1, o2, o3, o4, o5⟩ := h.ros hk2 hro
  have hmem : ∀ f, f ∈ D.files ++ [(⟨no, xs, []⟩ : Fi)] → f ∈ D.files ∧ f.no ≠ no ∨ f = ⟨no, xs, []⟩ := fun f hf => by
    rcases List.mem_append.1 hf with hf | hf
    · exact .inl ⟨hf, hno f hf⟩
    · exact .inr (List.mem_singleton.1 hf)
  have hown' := ownsRow_kept hown hk (fun k e e2 => by have := (hown.lt k e).1; omega)
  have ho' := ownsRow_kept ho hk (fun k e e2 => by have := (ho.lt k e).1; omega)
  refine ⟨{ R with lv := v', bv := fun m => if m = no then bv' else R.bv m, pv := fun m => if m = no then .slice none 0 0 else R.pv m, ps := fun m => if m = no then [] else R.ps m, ro := fun k => R.ro k ∨ bv'.ownBlock = some k, wo := fun k => R.wo k ∨ v'.ownBlock = some k }, ⟨⟨hd, ?_, o1, h.ns, ?_, ?_, ?_, ?_, ?_, ?_, o4, o5, fun k e => .inr e, fun k e => .inl (h.fn k e), fun k e => .inl (h.fu k e), fun k e => .inl (h.f1 k e), fun k e => .inl (h.f2 k e), ?_, ?_, ?_, ?_, ?_, ?_, ?_⟩, hk2.mono fun k _ e => .inl e, ?_⟩, rfl, ⟨rfl, rfl, rfl, rfl⟩, hk2⟩
  · show w'.ownsRow 0 141 3 v' (D.files ++ [(⟨no, xs, []⟩ : Fi)]).length _
    rw [List.length_append, List.flatMap_append]
    have e : D.files.flatMap (rfcs { R with lv := v', bv := fun m => if m = no then bv' else R.bv m, pv := fun m => if m = no then .slice none 0 0 else R.pv m, ps := fun m => if m = no then [] else R.ps m, ro := fun k => R.ro k ∨ bv'.ownBlock = some k, wo := fun k => R.wo k ∨ v'.ownBlock = some k }) = D.files.flatMap (rfcs R) := fm_congr fun f hf => by simp [rfcs, hno f hf]
    rw [e]
    have := owns_mono hown' (Nat.zero_le _)
    simpa [rfcs] using this
  · exact ownsRow_kept h.tur hk2 fun k e e2 => h.r2 (e2 ▸ h.fu k e)
  · intro f hf
    rcases hmem f hf with ⟨h1, h2⟩ | rfl
    · dsimp only; rw [if_neg h2]; exact o2 f h1
    · dsimp only; rw [if_pos rfl]; exact sn_of_owns ho'
  · intro f hf
    rcases hmem f hf with ⟨h1, h2⟩ | rfl
    · dsimp only; rw [if_neg h2, if_neg h2]
      exact ownsRow_kept (h.pen f h1) hk2 fun k e e2 => h.r2 (e2 ▸ h.fp f h1 k e)
    · dsimp only; rw [if_pos rfl, if_pos rfl]; exact owns_nil _ _ _ _
  · intro f hf
    rcases hmem f hf with ⟨h1, h2⟩ | rfl
    · dsimp only; rw [if_neg h2]; exact h.pfs f h1
    · dsimp only; rw [if_pos rfl]; rfl
  · intro f hf p hp
    rcases hmem f hf with ⟨h1, h2⟩ | rfl
    · dsimp only at hp; rw [if_neg h2] at hp; exact o3 f h1 p hp
    · dsimp only at hp; rw [if_pos rfl] at hp; cases hp
  · intro f hf g hg hne k
    rcases hmem f hf with ⟨h1, h2⟩ | rfl
    · rcases hmem g hg with ⟨h3, h4⟩ | rfl
      · dsimp only; rw [if_neg h2, if_neg h4]; exact h.dis f h1 g h3 hne k
      · dsimp only; rw [if_pos rfl]; intro _ e; simp [Value.ownBlock] at e
    · dsimp only; rw [if_pos rfl]; intro e; simp [Value.ownBlock] at e
  · intro f hf k e
    rcases hmem f hf with ⟨h1, h2⟩ | rfl
    · dsimp only at e; rw [if_neg h2] at e; exact .inl (h.fb f h1 k e)
    · dsimp only at e; rw [if_pos rfl] at e; exact .inr e
  · intro f hf k e
    rcases hmem f hf with ⟨h1, h2⟩ | rfl
    · dsimp only at e; rw [if_neg h2] at e; exact .inl (h.fp f h1 k e)
    · dsimp only at e; rw [if_pos rfl] at e; simp [Value.ownBlock] at e
  · intro f hf p hp k e
    rcases hmem f hf with ⟨h1, h2⟩ | rfl
    · dsimp only at hp; rw [if_neg h2] at hp; exact .inl (h.fd f h1 p hp k e)
    · dsimp only at hp; rw [if_pos rfl] at hp; cases hp
  · rintro k (e | e) (e2 | e2)
    · exact h.ap k e e2
    · have := h.lt k (.inl e)
      have := (hown.lt k e2).1
      omega
    · have := h.lt k (.inr e2)
      have := (ho.lt k e).1
      omega
    · exact owns_ne ho hown (by decide) k e e2
  · rintro (e | e)
    · exact h.r1 e
    · have := (ho.lt r e).1; omega
  · rintro (e | e)
    · exact h.r2 e
    · have := (hown.lt r e).1; omega
  · rintro k ((e | e) | (e | e))
    · exact Nat.lt_of_lt_of_le (h.lt k (.inl e)) hk2.size
    · exact (ho'.lt k e).2
    · exact Nat.lt_of_lt_of_le (h.lt k (.inr e)) hk2.size
    · exact (hown'.lt k e).2
  · rintro k (e | (e | e) | (e | e))
    · exact .inl (.inl e)
    · exact .inl (.inr (.inl e))
    · exact .inr (ho.lt k e).1
    · exact .inl (.inr (.inr e))
    · exact .inr (hown.lt k e).1

end

end Go.Proofs.YtlmompdfombgeaaGreat
