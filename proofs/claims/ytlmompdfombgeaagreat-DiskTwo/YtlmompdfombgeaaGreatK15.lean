import Derived.Test.YtlmompdfombgeaaGreatK14
namespace Go.Proofs.YtlmompdfombgeaaGreat
open Go.RowKit Go.MapKept

theorem ff_self {f : Fi} : ∀ {l : List Fi}, (l.map Fi.no).Nodup → f ∈ l → ff f.no l = some f
  | [], _, h => by cases h
  | g :: l, hn, h => by
    rw [List.map_cons, List.nodup_cons] at hn
    rw [ff]
    rcases List.mem_cons.1 h with rfl | h
    · rw [if_pos rfl]
    · rw [if_neg (fun e => hn.1 (by rw [e]; exact List.mem_map.2 ⟨f, h, rfl⟩))]
      exact ff_self hn.2 h

/-- What is held. -/
def heldD (D : Dq) : Nat := (D.files.map Fi.peak).sum

/-- The peak of a number. -/
def pkN (D : Dq) (m : Int) : Int := ((ff m D.files).map fun f => (f.peak : Int)).getD 0
/-- Of an entry. -/
def pkE (D : Dq) (e : MapEntry) : Int := pkN D (iv e.key)

theorem sum_cast : ∀ l : List Nat, ((l.sum : Nat) : Int) = (l.map (fun n : Nat => (n : Int))).sum
  | [] => rfl
  | a :: l => by rw [List.sum_cons, List.map_cons, List.sum_cons, ← sum_cast l]; omega

theorem sumI_perm {l l' : List Int} (h : l.Perm l') : l.sum = l'.sum := by
  induction h with
  | nil => rfl
  | cons x _ ih => rw [List.sum_cons, List.sum_cons, ih]
  | swap x y l => simp only [List.sum_cons]; omega
  | trans _ _ h1 h2 => exact h1.trans h2

section
variable {w : World} {d : Nat} {t : Wt} {D : Dq} {n : Nat}

theorem DkT.sumE (h : DkT w d t D) (hW : WD n D) : Go.Proofs.YtlmompdfombgeaaGreat.sumE (pkE D) t.eL.toList = heldD D := by
  unfold Go.Proofs.YtlmompdfombgeaaGreat.sumE heldD
  have e1 : t.eL.toList.map (pkE D) = (t.eL.toList.map (fun e => (e.key, e.val))).map (fun x => pkN D (iv x.1)) := by rw [List.map_map]; rfl
  rw [e1, h.hL.kvs, List.map_map, sum_cast, List.map_map]
  have e2 : (t.kl.map ((fun x : Value × Value => pkN D (iv x.1)) ∘ fun x : Int × Value => (KI.enc x.1, x.2))).Perm ((encL t.pt D.files).map (fun x => pkN D x.1)) := h.pl.map (fun x : Int × Value => pkN D x.1)
  rw [sumI_perm e2]
  unfold encL
  rw [List.map_map]
  congr 1
  refine List.map_congr_left fun f hf => ?_
  simp only [Function.comp, pkN, ff_self hW.nd hf, Option.map_some, Option.getD_some]

theorem Fil.cells {ft : Nat → Prop} {p : Nat} {f : Fi} (h : Fil w ft p f) : (∃ ao cap, w.cell? ⟨p, 0, none⟩ = some (.slice ao f.safe.length cap) ∧ Sn w (.slice ao f.safe.length cap) f.safe) ∧ (∃ ao cap, w.cell? ⟨p, 1, none⟩ = some (.slice ao f.cs.length cap)) ∧ (∃ ao cap, w.cell? ⟨p, 2, none⟩ = some (.slice ao f.row.1.length cap) ∧ Sn w (.slice ao f.row.1.length cap) f.row.1) ∧ w.cell? ⟨p, 4, none⟩ = some (.int .i64 f.peak) := by
  obtain ⟨pend, vs, vp, vd, vf, hf, hp, ht⟩ := h
  obtain ⟨a0, b0, e0⟩ := own_shape hf.os
  obtain ⟨a1, b1, e1⟩ := own_shape hf.op
  obtain ⟨a2, b2, e2⟩ := own_shape hf.od
  obtain ⟨c0, c1, c2, c3, c4⟩ := cells5 hf.blk
  refine ⟨⟨a0, b0, by rw [← e0]; exact c0, by rw [← e0]; exact sn_of_owns hf.os⟩, ⟨a1, b1, ?_⟩, ⟨a2, b2, by rw [← e2]; exact c2, by rw [← e2]; exact sn_of_owns hf.od⟩, c4⟩
  rw [← hp.1, ← e1]
  exact c1

theorem DkT.peaks (h : DkT w d t D) (hW : WD n D) : Peaks w t.eL (pkE D) := by
  intro e he
  have h1 : (e.key, e.val) ∈ t.kl.map (fun x => (KI.enc x.1, x.2)) := by
    rw [← h.hL.kvs]
    exact List.mem_map.2 ⟨e, he, rfl⟩
  obtain ⟨x, hx, hxe⟩ := List.mem_map.1 h1
  injection hxe with hx1 hx2
  have h2 : x ∈ encL t.pt D.files := h.pl.mem_iff.1 hx
  obtain ⟨f, hf, rfl⟩ := List.mem_map.1 h2
  have hk : iv e.key = f.no := by rw [← hx1]; rfl
  have hpk : pkE D e = f.peak := by simp only [pkE, pkN, hk, ff_self hW.nd hf, Option.map_some, Option.getD_some]
  refine ⟨t.pt f.no, hx2.symm, ?_, by rw [hpk]; omega⟩
  rw [hpk]
  exact (h.fil f hf).cells.2.2.2

theorem held_dk (h : DkT w d t D) (hW : WD n D) : Calls Tryz.prog 74 #[.map (some t.L)] w fun x w' => x = .returned (.tuple #[.int .i64 (heldD D : Nat), .int .i64 D.files.length]) ∧ Below w.heap.size w w' := by
  have h1 := hW.hld
  have h2 := hW.room
  have h3 := hW.cnt
  have h4 := hW.lim
  have := held_any t.L t.cL t.eL (pkE D) w h.hL.blk h.hL.hold h.hL.nd (h.peaks hW) (by rw [h.sumE hW]; unfold heldD; omega) (by rw [h.lsize]; omega)
  rw [h.sumE hW, h.lsize] at this
  exact this

/-- Sync of a file. -/
def syncK (nm : ByteArray) (D : Dq) : Int × Dq := (0, match D.look nm with | some f => { D with files := setF { f with safe := f.row.1, cs := [] } D.files } | none => D)

set_option maxRecDepth 100000 in
set_option maxHeartbeats 1000000 in
theorem syncC_dk (h : DkT w d t D) (hW : WD n D) (nm : ByteArray) (f : Fi) (hl : D.look nm = some f) :
    Calls Tryz.prog 83 #[.pointer (some ⟨t.pt f.no, 0, none⟩)] w fun x w' => x = .returned (.int .i64 (syncK nm D).1) ∧ ∃ t', Goes d w t D w' t' (syncK nm D).2 := by
  have hf := (look_mem hl).1
  have HC := hid (sync_fil (h.fil f hf) (by have := hW.peak hf; omega))
  have e : syncK nm D = (0, { D with files := setF { f with safe := f.row.1, cs := [] } D.files }) := by simp [syncK, hl]
  rw [e]
  have H := hid h
  clear h e
  go_enter Tryz.func83, Tryz.ntmps83
  go_wp2_with (
    go_at_call 84
    refine HC.out.mono ?_
    rintro e w2 ⟨rfl, hx⟩
    have HX := hid hx
    clear hx)
  go_ret
  obtain ⟨ft', h1, h2, h3⟩ := HX.out
  exact ⟨rfl, _, H.out.change (f' := { f with safe := f.row.1, cs := [] }) hf rfl h2 h1 h3⟩

def syncP (D : Dq) (nm : ByteArray) : Int × Dq := strokeP D (pre1 D nm false 0) (syncK nm)

set_option maxRecDepth 100000 in
set_option maxHeartbeats 1000000 in
theorem sync_dk (h : DkT w d t D) (hW : WD n D) (hn : n ≤ 100000) (nm : ByteArray) (hs : nm.size ≤ maxLen) :
    Calls Tryz.prog 23 #[.pointer (some ⟨d, 0, none⟩), .string nm] w fun x w' => x = .returned (.int .i64 (syncP D nm).1) ∧ ∃ t', Goes d w t D w' t' (syncP D nm).2 := by
  have hmf : ∀ (fn : Fn) (first cap : Array Value) (w : World), (Instr.makeFunc fn first cap).run Tryz.prog w = .ok (.func fn first cap) w := fun _ _ _ _ => rfl
  have hcall : Calls Tryz.prog 76 #[.pointer (some ⟨d, 0, none⟩), .agg #[.slice (some ⟨w.heap.size, 0, none⟩) 1 1, .bool false, .int .i64 0], .func (.func 83) #[] #[]]
      (w.alloc (.cells #[.string nm] 9)) fun x w3 => x = .returned (.int .i64 (syncP D nm).1) ∧ ∃ t', Goes d w t D w3 t' (syncP D nm).2 := by
    have hb0 : Below w.heap.size w (w.alloc (.cells #[.string nm] 9)) := (Below.refl _ _).alloc (Nat.le_refl _) _
    have g2 : (w.alloc (.cells #[.string nm] 9)).cell? ⟨w.heap.size, 0, none⟩ = some (.string nm) := by simp [go_sem]
    obtain ⟨W, hW'⟩ : ∃ W, W = w.alloc (.cells #[.string nm] 9) := ⟨_, rfl⟩
    rw [← hW'] at hb0 g2 ⊢
    clear hW'
    have hZ := h.below hb0
    refine (stroke_dk hZ hW (by omega) _ _ _ _ (pre1 D nm false 0) rfl rfl rfl (fun w1 hb => find1_dk (hZ.below hb) hW _ nm false 0 ((hb.cell (World.block_lt_of_cell? _ _ g2)).trans g2) hs (fun h => by cases h)) pre1_off 83 _ (enters_of Tryz.func83 (by kernel_rfl) rfl) (syncK nm) ?_).mono ?_
    · intro e0 _ w2 hd2 hk2
      obtain ⟨hok, _, hl⟩ := pre1_look e0
      obtain ⟨f, hl, _⟩ := hl rfl
      rw [e0, show fvOf t D nm 0 = .pointer (some ⟨t.pt f.no, 0, none⟩) by simp [fvOf, hl]]
      exact syncC_dk hd2 hW.cntS nm f hl
    · rintro x w3 ⟨rfl, t', hg⟩
      exact ⟨rfl, t', (Goes.still h hb0).trans hg⟩
  have HC := hid hcall
  clear h hcall
  go_enter Tryz.func23, Tryz.ntmps23
  go_wp2_with (
    go_at_call 76
    refine HC.out.mono ?_
    rintro e w3 ⟨rfl, hx⟩
    have HX := hid hx
    clear hx)
  go_ret
  exact ⟨rfl, HX.out⟩

/-- Truncate. -/
def cutK (nm : ByteArray) (sz : Int) (D : Dq) : Int × Dq := (0, match D.look nm with | some f => (if sz < (f.row.1.length : Int) then { D with files := setF { f with cs := f.cs ++ [.inr sz.toNat] } D.files } else D) | none => D)

set_option maxRecDepth 100000 in
set_option maxHeartbeats 1000000 in
theorem cutC_dk (h : DkT w d t D) (hW : WD n D) (hn : n ≤ 1000000) (nm : ByteArray) (f : Fi) (hl : D.look nm = some f) (xs : Nat) (c : Nat) (hxs : w.cell? ⟨xs, 0, none⟩ = some (.int .i64 c)) (hc : c ≤ f.row.1.length) :
    Calls Tryz.prog 82 #[.pointer (some ⟨t.pt f.no, 0, none⟩), .pointer (some ⟨xs, 0, none⟩)] w fun x w' => x = .returned (.int .i64 (cutK nm c D).1) ∧ ∃ t', Goes d w t D w' t' (cutK nm c D).2 := by
  have hf := (look_mem hl).1
  obtain ⟨_, _, ⟨ao, cap, p2, _⟩, _⟩ := (h.fil f hf).cells
  have hpk := hW.peak hf
  have hcs := (hW.chg f hf).1
  by_cases hlt : c < f.row.1.length
  · have e : cutK nm c D = (0, { D with files := setF { f with cs := f.cs ++ [.inr c] } D.files }) := by
      unfold cutK
      rw [hl]
      dsimp only
      rw [if_pos (by omega), Int.toNat_natCast]
    rw [e]
    have H := hid h
    have hlt2 : (c : Int) < (f.row.1.length : Int) := by omega
    clear h e hlt
    go_enter Tryz.func82, Tryz.ntmps82
    go_wp2_with fail
    go_quiet (fail)
    have hbq : Below w.heap.size w (w.drewN nq) := below_drewN (Below.refl _ _) nq
    go_wp2_with (
      go_at_call 81
      refine (pendCut_fil ((H.out.below hbq).fil f hf) c hc (by omega) (by omega)).mono ?_
      rintro e w2 ⟨rfl, hx⟩
      have HX := hid hx
      clear hx)
    go_ret
    obtain ⟨ft', h1, h2, h3⟩ := HX.out
    exact ⟨rfl, _, (Goes.still H.out hbq).trans <| (H.out.below hbq).change (f' := { f with cs := f.cs ++ [.inr c] }) hf rfl h2 h1 h3⟩
  · have e : cutK nm c D = (0, D) := by
      unfold cutK
      rw [hl]
      dsimp only
      rw [if_neg (by omega)]
    rw [e]
    have H := hid h
    have hlt2 : ¬ (c : Int) < (f.row.1.length : Int) := by omega
    clear h e hlt
    go_enter Tryz.func82, Tryz.ntmps82
    go_wp2
    go_quiet (fail)
    go_wp2
    go_ret
    exact ⟨rfl, t, Goes.still H.out (below_drewN (Below.refl _ _) _)⟩

def cutP (D : Dq) (nm : ByteArray) (sz : Int) : Int × Dq := strokeP D (pre1 D nm false sz) (cutK nm sz)

set_option maxRecDepth 100000 in
set_option maxHeartbeats 1000000 in
theorem cut_dk (h : DkT w d t D) (hW : WD n D) (hn : n ≤ 100000) (nm : ByteArray) (hs : nm.size ≤ maxLen) (sz : Int) :
    Calls Tryz.prog 22 #[.pointer (some ⟨d, 0, none⟩), .string nm, .int .i64 sz] w fun x w' => x = .returned (.int .i64 (cutP D nm sz).1) ∧ ∃ t', Goes d w t D w' t' (cutP D nm sz).2 := by
  have hmf : ∀ (fn : Fn) (first cap : Array Value) (w : World), (Instr.makeFunc fn first cap).run Tryz.prog w = .ok (.func fn first cap) w := fun _ _ _ _ => rfl
  have hdl := hp_lt h.disk
  have hcall : Calls Tryz.prog 76 #[.pointer (some ⟨d, 0, none⟩), .agg #[.slice (some ⟨w.heap.size + 1, 0, none⟩) 1 1, .bool false, .int .i64 sz], .func (.func 82) #[] #[.pointer (some ⟨w.heap.size, 0, none⟩)]]
      ((w.alloc (.cells #[.int .i64 sz] 3)).alloc (.cells #[.string nm] 9)) fun x w3 => x = .returned (.int .i64 (cutP D nm sz).1) ∧ ∃ t', Goes d w t D w3 t' (cutP D nm sz).2 := by
    have hb0 : Below w.heap.size w ((w.alloc (.cells #[.int .i64 sz] 3)).alloc (.cells #[.string nm] 9)) := ((Below.refl _ _).alloc (Nat.le_refl _) _).alloc (by simp) _
    have g0 : ((w.alloc (.cells #[.int .i64 sz] 3)).alloc (.cells #[.string nm] 9)).cell? ⟨w.heap.size, 0, none⟩ = some (.int .i64 sz) := by simp [go_sem]
    have g2 : ((w.alloc (.cells #[.int .i64 sz] 3)).alloc (.cells #[.string nm] 9)).cell? ⟨w.heap.size + 1, 0, none⟩ = some (.string nm) := by simp [go_sem]
    obtain ⟨W, hW'⟩ : ∃ W, W = ((w.alloc (.cells #[.int .i64 sz] 3)).alloc (.cells #[.string nm] 9)) := ⟨_, rfl⟩
    rw [← hW'] at hb0 g0 g2 ⊢
    clear hW'
    have hZ := h.below hb0
    refine (stroke_dk hZ hW (by omega) _ _ _ _ (pre1 D nm false sz) rfl rfl rfl (fun w1 hb => find1_dk (hZ.below hb) hW _ nm false sz ((hb.cell (World.block_lt_of_cell? _ _ g2)).trans g2) hs (fun h => by cases h)) pre1_off 82 _ (enters_of Tryz.func82 (by kernel_rfl) rfl) (cutK nm sz) ?_).mono ?_
    · intro e0 _ w2 hd2 hk2
      obtain ⟨hok, _, hl⟩ := pre1_look e0
      obtain ⟨f, hl1, hz0, hz1⟩ := hl rfl
      rw [e0, show fvOf t D nm 0 = .pointer (some ⟨t.pt f.no, 0, none⟩) by simp [fvOf, hl1]]
      obtain ⟨c, rfl⟩ : ∃ c : Nat, sz = c := ⟨sz.toNat, by omega⟩
      exact cutC_dk hd2 hW.cntS (by omega) nm f hl1 _ c (hk2.cell g0 (fun e => by simp at e; omega)) (by omega)
    · rintro x w3 ⟨rfl, t', hg⟩
      exact ⟨rfl, t', (Goes.still h hb0).trans hg⟩
  have HC := hid hcall
  clear h hcall
  go_enter Tryz.func22, Tryz.ntmps22
  go_wp2_with (
    go_at_call 76
    refine HC.out.mono ?_
    rintro e w3 ⟨rfl, hx⟩
    have HX := hid hx
    clear hx)
  go_ret
  exact ⟨rfl, HX.out⟩

end
end Go.Proofs.YtlmompdfombgeaaGreat

namespace Go.Proofs.YtlmompdfombgeaaGreat
open Go.RowKit Go.MapKept

theorem Sl.keptE {w w' : World} {v : Value} {bs : List Int} {S : Nat → Prop} (h : Sl w v bs) (hk : Kept S w w') (hn : bs ≠ [] → ∀ k, v.ownBlock = some k → ¬ S k) : Sl w' v bs := by
  obtain ⟨ao, cap, rfl, hc, hx⟩ := h
  refine ⟨ao, cap, rfl, hc, fun hne => ?_⟩
  obtain ⟨b, off, rfl, hj⟩ := hx hne
  exact ⟨b, off, rfl, fun j x e => hk.cell (hj j x e) (hn hne b rfl)⟩

theorem Rf.keptE {w w' : World} {m : Nat} {v : Value} {n : Nat} {cs : List Value} {S : Nat → Prop} (h : Rf w m v n cs) (hk : Kept S w w') (hn : 0 < n → ∀ k, v.ownBlock = some k → ¬ S k) : Rf w' m v n cs := by
  rcases Nat.eq_zero_or_pos n with h0 | h0
  · obtain ⟨h1, h2, h3⟩ := h
    have hcs : cs = [] := List.eq_nil_of_length_eq_zero (by rw [h1, h0, Nat.zero_mul])
    refine ⟨h1, h2, ?_⟩
    rcases h3 with h3 | ⟨a, cap, e, h4, h5, _⟩
    · exact .inl h3
    · exact .inr ⟨a, cap, e, h4, h5, fun j u hu => by rw [hcs] at hu; simp at hu⟩
  · exact h.kept hk (hn h0)

/-- The block of a row that is not empty is there. -/
theorem Rf.blk {w : World} {m : Nat} {v : Value} {n : Nat} {cs : List Value} (h : Rf w m v n cs) (h0 : 0 < n) (hm : 0 < m) (k : Nat) (e : v.ownBlock = some k) : k < w.heap.size := by
  obtain ⟨b, off, cap, rfl, _, _, hc⟩ := h.lits h0 hm
  have hl : 0 < cs.length := by rw [h.1]; exact Nat.mul_pos h0 hm
  have h1 := hc 0 cs[0] (List.getElem?_eq_getElem hl)
  have h2 : b < w.heap.size := World.block_lt_of_cell? _ _ h1
  simp [Value.ownBlock] at e
  omega

section
variable {w : World} {d : Nat} {t : Wt} {D : Dq} {n : Nat}

/-- Append. -/
def appK (nm : ByteArray) (ys : List Int) (D : Dq) : Int × Dq :=
  match D.look nm with
  | some f => if D.room < (heldD D : Int) - f.peak + max (f.peak : Int) ((f.row.1.length : Int) + ys.length) then (8, D) else if ys.length = 0 then (0, D) else (0, { D with files := setF { f with cs := f.cs ++ [.inl ys] } D.files })
  | none => (0, D)

set_option maxRecDepth 100000 in
set_option maxHeartbeats 1600000 in
theorem appC_dk (h : DkT w d t D) (hW : WD n D) (hn : n ≤ 1000000) (nm : ByteArray) (f : Fi) (hl : D.look nm = some f) (xd xx : Nat) (ao : Option Addr) (cap : Nat) (ys : List Int) (hxd : w.cell? ⟨xd, 0, none⟩ = some (.pointer (some ⟨d, 0, none⟩))) (hxx : w.cell? ⟨xx, 0, none⟩ = some (.slice ao ys.length cap)) (hsl : Sl w (.slice ao ys.length cap) ys) (hy : ys.length ≤ 1000000) :
    Calls Tryz.prog 80 #[.pointer (some ⟨t.pt f.no, 0, none⟩), .pointer (some ⟨xd, 0, none⟩), .pointer (some ⟨xx, 0, none⟩)] w fun x w' => x = .returned (.int .i64 (appK nm ys D).1) ∧ ∃ t', Goes d w t D w' t' (appK nm ys D).2 := by
  have hf := (look_mem hl).1
  obtain ⟨_, _, ⟨ad, cd, p2, _⟩, p4⟩ := (h.fil f hf).cells
  obtain ⟨c0, c1, c2, c3, c4, c5, c6, c7, c8, c9, c10, c11⟩ := h.disk.cells
  have hpk0 := hW.peak hf
  have hcs := (hW.chg f hf).1
  have hrp : f.row.1.length ≤ f.peak := row_le_peak f.safe f.cs
  have hhl : (heldD D : Int) ≤ 4194304 := by have := hW.hld; have := hW.room; unfold heldD; omega
  have hrm := hW.room
  have HE := held_dk h hW
  obtain ⟨H, hH⟩ : ∃ H : Int, H = (heldD D : Nat) := ⟨_, rfl⟩
  obtain ⟨pk, hpk⟩ : ∃ pk : Int, pk = (f.peak : Nat) := ⟨_, rfl⟩
  obtain ⟨rl, hrl⟩ : ∃ rl : Nat, rl = f.row.1.length := ⟨_, rfl⟩
  obtain ⟨mx, hmx⟩ : ∃ mx, mx = max pk ((rl : Int) + ys.length) := ⟨_, rfl⟩
  have hm1 : mx ≤ 1000000000 := by rw [hmx]; simp only [Int.max_def]; split <;> omega
  have hm2 : 0 ≤ mx := by rw [hmx]; simp only [Int.max_def]; split <;> omega
  have hH1 : 0 ≤ H ∧ H ≤ 4194304 := by omega
  have hp1 : 0 ≤ pk ∧ pk ≤ 4194304 := by omega
  have hrl1 : rl ≤ 4194304 := by omega
  have hap : appK nm ys D = if D.room < H - pk + mx then (8, D) else if ys.length = 0 then (0, D) else (0, { D with files := setF { f with cs := f.cs ++ [.inl ys] } D.files }) := by
    unfold appK
    rw [hl, hmx, hrl, hpk, hH]
  rw [hap]
  rw [← hH] at HE
  rw [← hpk] at p4
  rw [← hrl] at p2
  have HMX := hid hmx
  have HO := hid h
  have HSL := hid hsl
  have HHE := hid HE
  have HF := hid (And.intro hf (And.intro hrl hpk))
  have hbig : w.heap.size ≤ w.heap.size := Nat.le_refl _
  clear h hsl c1 c3 c4 c5 c6 c7 c8 c9 c10 c11 hmx HE hap hH hpk hrl hl hf hrp hhl hbig
  by_cases hfull : D.room < H - pk + mx
  · have j' : decide (D.room < H - pk + mx) = true := by simpa using hfull
    rw [if_pos hfull]
    clear hfull
    go_enter Tryz.func80, Tryz.ntmps80
    go_wp2_with (
      go_at_call 74
      refine HHE.out.mono ?_
      rintro e w1 ⟨rfl, hb⟩
      have a1 := (hb.cell (World.block_lt_of_cell? _ _ hxd)).trans hxd
      have a2 := (hb.cell (World.block_lt_of_cell? _ _ hxx)).trans hxx
      have a3 := (hb.cell (World.block_lt_of_cell? _ _ p2)).trans p2
      have a4 := (hb.cell (World.block_lt_of_cell? _ _ p4)).trans p4
      have a5 := (hb.cell (World.block_lt_of_cell? _ _ c0)).trans c0
      have HB1 := hid hb
      clear hb)
    go_region
    rw [← HMX.out]
    go_wp2_with fail
    go_quiet (fail)
    go_wp2
    go_ret
    exact ⟨rfl, t, Goes.still HO.out (below_drewN (HB1.out.drew) _)⟩
  · have j' : decide (D.room < H - pk + mx) = false := by simpa using hfull
    rw [if_neg hfull]
    clear hfull
    by_cases hy0 : ys.length = 0
    · rw [if_pos hy0]
      have hgt : ¬ (0 : Int) < (ys.length : Int) := by omega
      go_enter Tryz.func80, Tryz.ntmps80
      go_wp2_with (
        go_at_call 74
        refine HHE.out.mono ?_
        rintro e w1 ⟨rfl, hb⟩
        have a1 := (hb.cell (World.block_lt_of_cell? _ _ hxd)).trans hxd
        have a2 := (hb.cell (World.block_lt_of_cell? _ _ hxx)).trans hxx
        have a3 := (hb.cell (World.block_lt_of_cell? _ _ p2)).trans p2
        have a4 := (hb.cell (World.block_lt_of_cell? _ _ p4)).trans p4
        have a5 := (hb.cell (World.block_lt_of_cell? _ _ c0)).trans c0
        have HB1 := hid hb
        clear hb hy0)
      go_region
      rw [← HMX.out]
      go_wp2_with fail
      go_quiet (fail)
      go_wp2
      go_ret
      exact ⟨rfl, t, Goes.still HO.out (below_drewN HB1.out _)⟩
    · rw [if_neg hy0]
      have hgt : (0 : Int) < (ys.length : Int) := by omega
      clear hy0
      go_enter Tryz.func80, Tryz.ntmps80
      go_wp2_with (
        go_at_call 74
        refine HHE.out.mono ?_
        rintro e w1 ⟨rfl, hb⟩
        have a1 := (hb.cell (World.block_lt_of_cell? _ _ hxd)).trans hxd
        have a2 := (hb.cell (World.block_lt_of_cell? _ _ hxx)).trans hxx
        have a3 := (hb.cell (World.block_lt_of_cell? _ _ p2)).trans p2
        have a4 := (hb.cell (World.block_lt_of_cell? _ _ p4)).trans p4
        have a5 := (hb.cell (World.block_lt_of_cell? _ _ c0)).trans c0
        have HB1 := hid hb
        clear hb)
      go_region
      rw [← HMX.out]
      go_wp2_with fail
      go_quiet (fail)
      have hBW : Below w.heap.size w (w1.drew.drewN nq) := below_drewN (HB1.out.drew) nq
      have hWO := HO.out.below hBW
      have hWS := HSL.out.below hBW
      have hWx := (hBW.cell (World.block_lt_of_cell? _ _ hxx)).trans hxx
      obtain ⟨W, hW'⟩ : ∃ W, W = w1.drew.drewN nq := ⟨_, rfl⟩
      rw [← hW'] at hBW hWO hWS hWx ⊢
      have HWO := hid (And.intro hBW (And.intro hWO hWS))
      clear hW' hBW hWO hWS a1 a2 a3 a4 a5 HB1 hxd hxx c0 c2 p2 p4 j' HSL
      go_wp2_with (first
        | (go_at_call 71
           refine (copied_any _ ys _ HWO.out.2.2 (by omega)).mono ?_
           rintro e w2 ⟨rfl, ho, hb⟩
           have HC := hid (And.intro ho hb)
           clear ho hb)
        | (go_at_call 81; go_loud (
           refine (pendApp_fil ((HWO.out.2.1.below HC.out.2).fil f HF.out.1) (.slice (some ⟨W.heap.size, 0, none⟩) ys.length ys.length) ys (sn_of_owns (HC.out.1.owns (Nat.zero_le _) (by unfold maxLen; omega))) (fun k hk => ?hsb) (by omega) (by omega) (by omega)).mono ?_
           case hsb =>
             simp [Value.ownBlock] at hk
             subst hk
             exact ⟨fun e => Nat.lt_irrefl _ ((HWO.out.2.1.fil f HF.out.1).lt _ e), _, HC.out.1⟩
           rintro e w3 ⟨rfl, hx⟩
           have HZ := hid hx
           clear hx)))
      go_ret
      obtain ⟨hBW, hWO, hWS⟩ := HWO.out
      obtain ⟨ho, hb⟩ := HC.out
      obtain ⟨ft', hf3, hk3, hl3⟩ := HZ.out
      obtain ⟨q1, q2, q3⟩ := (hWO.below hb).changeB (f' := { f with cs := f.cs ++ [.inl ys] }) HF.out.1 rfl hk3 hf3 W.heap.size (fun k e => hWO.lt k e) (fun k e => by
        rcases hl3 k e with e | e | e
        · exact .inl e
        · exact .inr (Nat.le_trans hb.size e)
        · simp [Value.ownBlock] at e
          exact .inr (by omega))
      refine ⟨rfl, _, (Goes.still HO.out hBW).trans ⟨q1, ?_, q3⟩⟩
      exact ((Kept.ofBelow hb).mono (fun _ _ e => e.elim)).trans q2 (fun _ _ e => e)

def appP (D : Dq) (nm : ByteArray) (ys : List Int) : Int × Dq := strokeP D (pre1 D nm false 0) (appK nm ys)

set_option maxRecDepth 100000 in
set_option maxHeartbeats 1000000 in
theorem app_dk (h : DkT w d t D) (hW : WD n D) (hn : n ≤ 100000) (nm : ByteArray) (hs : nm.size ≤ maxLen) (ao : Option Addr) (cap : Nat) (ys : List Int) (hsl : Sl w (.slice ao ys.length cap) ys) (hsd : ys ≠ [] → ∀ k, (Value.slice ao ys.length cap).ownBlock = some k → k ≠ d) (hy : ys.length ≤ 1000000) :
    Calls Tryz.prog 21 #[.pointer (some ⟨d, 0, none⟩), .string nm, .slice ao ys.length cap] w fun x w' => x = .returned (.int .i64 (appP D nm ys).1) ∧ ∃ t', Goes d w t D w' t' (appP D nm ys).2 := by
  have hmf : ∀ (fn : Fn) (first cap : Array Value) (w : World), (Instr.makeFunc fn first cap).run Tryz.prog w = .ok (.func fn first cap) w := fun _ _ _ _ => rfl
  have hdl := hp_lt h.disk
  have hcall : Calls Tryz.prog 76 #[.pointer (some ⟨d, 0, none⟩), .agg #[.slice (some ⟨w.heap.size + 1 + 1, 0, none⟩) 1 1, .bool false, .int .i64 0], .func (.func 80) #[] #[.pointer (some ⟨w.heap.size, 0, none⟩), .pointer (some ⟨w.heap.size + 1, 0, none⟩)]]
      (((w.alloc (.cells #[.pointer (some ⟨d, 0, none⟩)] 22)).alloc (.cells #[.slice ao ys.length cap] 35)).alloc (.cells #[.string nm] 9)) fun x w3 => x = .returned (.int .i64 (appP D nm ys).1) ∧ ∃ t', Goes d w t D w3 t' (appP D nm ys).2 := by
    have hb0 : Below w.heap.size w (((w.alloc (.cells #[.pointer (some ⟨d, 0, none⟩)] 22)).alloc (.cells #[.slice ao ys.length cap] 35)).alloc (.cells #[.string nm] 9)) := (((Below.refl _ _).alloc (Nat.le_refl _) _).alloc (by simp) _).alloc (by simp; omega) _
    have g0 : (((w.alloc (.cells #[.pointer (some ⟨d, 0, none⟩)] 22)).alloc (.cells #[.slice ao ys.length cap] 35)).alloc (.cells #[.string nm] 9)).cell? ⟨w.heap.size, 0, none⟩ = some (.pointer (some ⟨d, 0, none⟩)) := by simp [go_sem]
    have g1 : (((w.alloc (.cells #[.pointer (some ⟨d, 0, none⟩)] 22)).alloc (.cells #[.slice ao ys.length cap] 35)).alloc (.cells #[.string nm] 9)).cell? ⟨w.heap.size + 1, 0, none⟩ = some (.slice ao ys.length cap) := by simp [go_sem]
    have g2 : (((w.alloc (.cells #[.pointer (some ⟨d, 0, none⟩)] 22)).alloc (.cells #[.slice ao ys.length cap] 35)).alloc (.cells #[.string nm] 9)).cell? ⟨w.heap.size + 1 + 1, 0, none⟩ = some (.string nm) := by simp [go_sem]
    obtain ⟨W, hW'⟩ : ∃ W, W = (((w.alloc (.cells #[.pointer (some ⟨d, 0, none⟩)] 22)).alloc (.cells #[.slice ao ys.length cap] 35)).alloc (.cells #[.string nm] 9)) := ⟨_, rfl⟩
    rw [← hW'] at hb0 g0 g1 g2 ⊢
    clear hW'
    have hZ := h.below hb0
    refine (stroke_dk hZ hW (by omega) _ _ _ _ (pre1 D nm false 0) rfl rfl rfl (fun w1 hb => find1_dk (hZ.below hb) hW _ nm false 0 ((hb.cell (World.block_lt_of_cell? _ _ g2)).trans g2) hs (fun h => by cases h)) pre1_off 80 _ (enters_of Tryz.func80 (by kernel_rfl) rfl) (appK nm ys) ?_).mono ?_
    · intro e0 _ w2 hd2 hk2
      obtain ⟨hok, _, hl⟩ := pre1_look e0
      obtain ⟨f, hl, _⟩ := hl rfl
      rw [e0, show fvOf t D nm 0 = .pointer (some ⟨t.pt f.no, 0, none⟩) by simp [fvOf, hl]]
      exact appC_dk hd2 hW.cntS (by omega) nm f hl _ _ ao cap ys (hk2.cell g0 (fun e => by simp at e; omega)) (hk2.cell g1 (fun e => by simp at e; omega)) ((hsl.below hb0).keptE hk2 (fun hne k hk e => hsd hne k hk e)) hy
    · rintro x w3 ⟨rfl, t', hg⟩
      exact ⟨rfl, t', (Goes.still h hb0).trans hg⟩
  have HC := hid hcall
  clear h hcall hsl
  go_enter Tryz.func21, Tryz.ntmps21
  go_wp2_with (
    go_at_call 76
    refine HC.out.mono ?_
    rintro e w3 ⟨rfl, hx⟩
    have HX := hid hx
    clear hx)
  go_ret
  exact ⟨rfl, HX.out⟩

end
end Go.Proofs.YtlmompdfombgeaaGreat

namespace Go.Proofs.YtlmompdfombgeaaGreat
open Go.RowKit Go.MapKept

/-- The files that have these names. -/
def liveF (l : List (ByteArray × Int)) (fs : List Fi) : List Fi := fs.filter fun f => decide (f.no ∈ l.map Prod.snd)

theorem mem_liveF {l : List (ByteArray × Int)} {fs : List Fi} {f : Fi} : f ∈ liveF l fs ↔ f ∈ fs ∧ f.no ∈ l.map Prod.snd := by simp [liveF]

/-- These are the names, and the safe ones. -/
def settleD (l : List (ByteArray × Int)) (D : Dq) : Dq := { D with safeN := l, turns := [], files := liveF l D.files }

theorem liveF_perm {l : List (ByteArray × Int)} {fs : List Fi} (hok : NOK fs l) (nd : (fs.map Fi.no).Nodup) : (l.map Prod.snd).Perm ((liveF l fs).map Fi.no) := by
  refine (List.perm_ext_iff_of_nodup hok.n (nd.sublist (List.Sublist.map _ List.filter_sublist))).2 fun a => ?_
  constructor
  · intro ha
    obtain ⟨x, hx, rfl⟩ := List.mem_map.1 ha
    obtain ⟨f, hf, e⟩ := List.mem_map.1 (hok.l x hx)
    exact List.mem_map.2 ⟨f, mem_liveF.2 ⟨hf, by rw [e]; exact ha⟩, e⟩
  · intro ha
    obtain ⟨f, hf, rfl⟩ := List.mem_map.1 ha
    exact (mem_liveF.1 hf).2

section
variable {w : World} {d : Nat} {t : Wt} {D : Dq} {n : Nat}

theorem settle_dk (h : DkT w d t D) (hnd0 : (D.files.map Fi.no).Nodup) (Nc cN : Nat) (nv : List (ByteArray × Value)) (esN : Array MapEntry) (hN : MG KS w Nc nv esN cN) (l : List (ByteArray × Int)) (hp : nv.Perm (encN l)) (hok : NOK D.files l) (hkd : ∀ b, t.k1 = .map (some b) ∨ t.k2 = .map (some b) → b ≠ Nc) :
    Calls Tryz.prog 86 #[.pointer (some ⟨d, 0, none⟩), .map (some Nc)] w fun x w' => x = .returned (.tuple #[]) ∧ ∃ t', DkT w' d t' (settleD l D) ∧ Kept (fun k => k = d) w w' ∧ (∀ k, Dft d t' (settleD l D) k → Dft d t D k ∨ w.heap.size ≤ k ∨ k = Nc) ∧ t'.N = Nc ∧ t'.kn = nv ∧ t'.eN = esN ∧ t'.cN = cN := by
  have hmem : ∀ x ∈ nv, ∃ y ∈ l, x = (y.1, Value.int .i64 y.2) := fun x hx => by
    obtain ⟨y, hy, e⟩ := List.mem_map.1 (hp.mem_iff.1 hx)
    exact ⟨y, hy, e.symm⟩
  have hint : ∀ x ∈ nv, x.2 = .int .i64 (iv x.2) := fun x hx => by
    obtain ⟨y, _, rfl⟩ := hmem x hx
    rfl
  have hnd : (nv.map (fun x => iv x.2)).Nodup := by
    have e1 := hp.map (fun x : ByteArray × Value => iv x.2)
    rw [e1.nodup_iff]
    have e2 : (encN l).map (fun x : ByteArray × Value => iv x.2) = l.map Prod.snd := by
      unfold encN
      rw [List.map_map]
      rfl
    rw [e2]
    exact hok.n
  refine (settle_gen d t.L Nc t.cL cN t.kl nv t.eL esN w D.room D.limit D.made (.map (some t.N)) (.map (some t.F)) t.vn D.off D.st t.k1 D.rd t.k2 h.disk h.hL hN hint hnd).mono ?_
  rintro x w' ⟨rfl, L', F', kv, es, c, hD', hM', hF', hL', hpk, hl1, hl2, hne, hk⟩
  obtain ⟨a1, a2, a3, a4, a5, a6, a7⟩ := h.apart
  have hNl := hp_lt hN.blk
  have kb : ∀ b, t.k1 = .map (some b) ∨ t.k2 = .map (some b) → b < w.heap.size := fun b e => by
    rcases e with e | e
    · exact h.lt b (.inr (.inr (.inr (.inr (.inr (.inl e))))))
    · exact h.lt b (.inr (.inr (.inr (.inr (.inr (.inr (.inl e)))))))
  refine ⟨rfl, { t with L := L', N := Nc, F := F', vn := .slice none 0 0, kl := kv, eL := es, cL := c, kn := nv, eN := esN, cN := cN, kf := nv, eF := esN, cF := cN }, ⟨hD', hL', hM', hF', ?_, hp, hp, by show L' ≠ Nc; omega, hne, by show Nc ≠ F'; omega, ?_, ?_, owns_nil _ _ _ _, h.kf1.keptOf hk ?_, h.kf2.keptOf hk ?_, ?_⟩, hk, ?_, rfl, rfl, rfl, rfl⟩
  · refine hpk.trans ((hp.map (lvOf t.kl)).trans ?_)
    have e1 : (encN l).map (lvOf t.kl) = (l.map Prod.snd).map (fun m => (m, Value.pointer (some ⟨t.pt m, 0, none⟩))) := by
      unfold encN
      rw [List.map_map, List.map_map]
      refine List.map_congr_left fun y hy => ?_
      obtain ⟨f, hf, e⟩ := List.mem_map.1 (hok.l y hy)
      have h1 : lo y.2 t.kl = some (.pointer (some ⟨t.pt y.2, 0, none⟩)) := by
        rw [h.lkeys, ← e, ff_self hnd0 hf]
        rfl
      show (y.2, (t.kl.lookup y.2).getD (.pointer none)) = (y.2, _)
      rw [lo_lookup, h1]
      rfl
    have e2 : encL t.pt (liveF l D.files) = ((liveF l D.files).map Fi.no).map (fun m => (m, Value.pointer (some ⟨t.pt m, 0, none⟩))) := by
      unfold encL
      rw [List.map_map]
      rfl
    show ((encN l).map (lvOf t.kl)).Perm (encL t.pt (liveF l D.files))
    rw [e1, e2]
    exact (liveF_perm hok hnd0).map _
  · intro f hf
    have hf' := (mem_liveF.1 hf).1
    exact (h.fil f hf').kept hk (fun k e e' => by subst e'; exact a7 f hf' e)
  · exact fun f hf g hg => h.dis f (mem_liveF.1 hf).1 g (mem_liveF.1 hg).1
  · exact fun b e e' => by subst e'; exact a5 e
  · exact fun b e e' => by subst e'; exact a6 e
  · intro b e
    have := kb b e
    exact ⟨by show b ≠ L'; omega, hkd b e, by show b ≠ F'; omega⟩
  · rintro k (e | e | e | e | e | e | e | ⟨f, hf, e⟩)
    · exact .inl (.inl e)
    · exact .inr (.inl (by subst e; exact hl1))
    · exact .inr (.inr e)
    · exact .inr (.inl (by subst e; exact hl2))
    · simp [Value.ownBlock] at e
    · exact .inl (.inr (.inr (.inr (.inr (.inr (.inl e))))))
    · exact .inl (.inr (.inr (.inr (.inr (.inr (.inr (.inl e)))))))
    · exact .inl (.inr (.inr (.inr (.inr (.inr (.inr (.inr ⟨f, (mem_liveF.1 hf).1, e⟩)))))))

def syncNK (D : Dq) : Int × Dq := (0, settleD D.names D)

set_option maxRecDepth 100000 in
set_option maxHeartbeats 1000000 in
theorem syncNC_dk (h : DkT w d t D) (hW : WD n D) (f : Value) (xd : Nat) (hxd : w.cell? ⟨xd, 0, none⟩ = some (.pointer (some ⟨d, 0, none⟩))) :
    Calls Tryz.prog 85 #[f, .pointer (some ⟨xd, 0, none⟩)] w fun x w' => x = .returned (.int .i64 (syncNK D).1) ∧ ∃ t', Goes d w t D w' t' (syncNK D).2 := by
  obtain ⟨c0, c1, c2, c3, c4, c5, c6, c7, c8, c9, c10, c11⟩ := h.disk.cells
  have hbd : Below w.heap.size w w.drew := (Below.refl _ _).drew
  have h' := h.below hbd
  have HC := hid (settle_dk h' hW.nd t.N t.cN t.kn t.eN h'.hN D.names h'.pn hW.nam (fun b e => (h'.kd b e).2.1))
  have H := hid h
  clear h h' c0 c1 c2 c3 c5 c6 c7 c8 c9 c10 c11
  go_enter Tryz.func85, Tryz.ntmps85
  go_wp2_with fail
  go_region_with (
    go_at_call 86
    refine HC.out.mono ?_
    rintro e w2 ⟨rfl, hx⟩
    have HX := hid hx
    clear hx)
  all_goals
    go_wp2
    go_ret
    obtain ⟨t', h1, h2, h3, _⟩ := HX.out
    refine ⟨rfl, t', (Goes.still H.out hbd).trans ⟨h1, h2.mono (fun _ _ e => .inl e), fun k e => ?_⟩⟩
    rcases h3 k e with e | e | e
    · exact .inl e
    · exact .inr e
    · exact .inl (.inr (.inr (.inl e)))

def syncNP (D : Dq) : Int × Dq := strokeP D (pre0 D) syncNK

set_option maxRecDepth 100000 in
set_option maxHeartbeats 1000000 in
theorem syncN_dk (h : DkT w d t D) (hW : WD n D) (hn : n ≤ 100000) :
    Calls Tryz.prog 24 #[.pointer (some ⟨d, 0, none⟩)] w fun x w' => x = .returned (.int .i64 (syncNP D).1) ∧ ∃ t', Goes d w t D w' t' (syncNP D).2 := by
  have hmf : ∀ (fn : Fn) (first cap : Array Value) (w : World), (Instr.makeFunc fn first cap).run Tryz.prog w = .ok (.func fn first cap) w := fun _ _ _ _ => rfl
  have hdl := hp_lt h.disk
  have hcall : Calls Tryz.prog 76 #[.pointer (some ⟨d, 0, none⟩), .agg #[.slice none 0 0, .bool false, .int .i64 0], .func (.func 85) #[] #[.pointer (some ⟨w.heap.size, 0, none⟩)]]
      (w.alloc (.cells #[.pointer (some ⟨d, 0, none⟩)] 22)) fun x w3 => x = .returned (.int .i64 (syncNP D).1) ∧ ∃ t', Goes d w t D w3 t' (syncNP D).2 := by
    have hb0 : Below w.heap.size w (w.alloc (.cells #[.pointer (some ⟨d, 0, none⟩)] 22)) := (Below.refl _ _).alloc (Nat.le_refl _) _
    have g0 : (w.alloc (.cells #[.pointer (some ⟨d, 0, none⟩)] 22)).cell? ⟨w.heap.size, 0, none⟩ = some (.pointer (some ⟨d, 0, none⟩)) := by simp [go_sem]
    obtain ⟨W, hW'⟩ : ∃ W, W = w.alloc (.cells #[.pointer (some ⟨d, 0, none⟩)] 22) := ⟨_, rfl⟩
    rw [← hW'] at hb0 g0 ⊢
    clear hW'
    have hZ := h.below hb0
    refine (stroke_dk hZ hW (by omega) _ _ _ _ (pre0 D) rfl rfl rfl (fun w1 hb => find0_dk (hZ.below hb)) pre0_off 85 _ (enters_of Tryz.func85 (by kernel_rfl) rfl) syncNK ?_).mono ?_
    · intro e0 _ w2 hd2 hk2
      exact syncNC_dk hd2 hW.cntS _ _ (hk2.cell g0 (fun e => by simp at e; omega))
    · rintro x w3 ⟨rfl, t', hg⟩
      exact ⟨rfl, t', (Goes.still h hb0).trans hg⟩
  have HC := hid hcall
  clear h hcall
  go_enter Tryz.func24, Tryz.ntmps24
  go_wp2_with (
    go_at_call 76
    refine HC.out.mono ?_
    rintro e w3 ⟨rfl, hx⟩
    have HX := hid hx
    clear hx)
  go_ret
  exact ⟨rfl, HX.out⟩

def remK (nm : ByteArray) (D : Dq) : Int × Dq := (0, turnD nm ⟨#[]⟩ 0 D)

set_option maxRecDepth 100000 in
set_option maxHeartbeats 1000000 in
theorem remC_dk (h : DkT w d t D) (hW : WD n D) (hn : n ≤ 1000000) (f : Value) (nm : ByteArray) (hok : nmOK nm = true) (xd xn : Nat) (hxd : w.cell? ⟨xd, 0, none⟩ = some (.pointer (some ⟨d, 0, none⟩))) (hxn : w.cell? ⟨xn, 0, none⟩ = some (.string nm)) :
    Calls Tryz.prog 88 #[f, .pointer (some ⟨xd, 0, none⟩), .pointer (some ⟨xn, 0, none⟩)] w fun x w' => x = .returned (.int .i64 (remK nm D).1) ∧ ∃ t', Goes d w t D w' t' (remK nm D).2 := by
  have hnm := nm_size hok
  have ht := hW.tur
  have H := hid h
  clear h
  go_enter Tryz.func88, Tryz.ntmps88
  go_wp2_with (
    go_at_call 78
    refine (pendN_dk H.out nm ⟨#[]⟩ 0 (by omega) (by omega) (show (0 : Nat) ≤ 1000000 by omega)).mono ?_
    rintro e w2 ⟨rfl, hx⟩
    have HX := hid hx
    clear hx)
  go_ret
  obtain ⟨t', hg, _⟩ := HX.out
  exact ⟨rfl, t', hg⟩

end
end Go.Proofs.YtlmompdfombgeaaGreat
