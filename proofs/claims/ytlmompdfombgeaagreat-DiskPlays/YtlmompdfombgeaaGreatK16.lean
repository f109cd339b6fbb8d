import Derived.Test.YtlmompdfombgeaaGreatK15
namespace Go.Proofs.YtlmompdfombgeaaGreat
open Go.RowKit Go.MapKept

section
variable {w : World} {d : Nat} {t : Wt} {D : Dq} {n : Nat}

def remP (D : Dq) (nm : ByteArray) : Int × Dq := strokeP D (pre1 D nm false 0) (remK nm)

set_option maxRecDepth 100000 in
set_option maxHeartbeats 1000000 in
theorem rem_dk (h : DkT w d t D) (hW : WD n D) (hn : n ≤ 100000) (nm : ByteArray) (hs : nm.size ≤ maxLen) :
    Calls Tryz.prog 26 #[.pointer (some ⟨d, 0, none⟩), .string nm] w fun x w' => x = .returned (.int .i64 (remP D nm).1) ∧ ∃ t', Goes d w t D w' t' (remP D nm).2 := by
  have hmf : ∀ (fn : Fn) (first cap : Array Value) (w : World), (Instr.makeFunc fn first cap).run Tryz.prog w = .ok (.func fn first cap) w := fun _ _ _ _ => rfl
  have hdl := hp_lt h.disk
  have hcall : Calls Tryz.prog 76 #[.pointer (some ⟨d, 0, none⟩), .agg #[.slice (some ⟨w.heap.size + 1 + 1, 0, none⟩) 1 1, .bool false, .int .i64 0], .func (.func 88) #[] #[.pointer (some ⟨w.heap.size, 0, none⟩), .pointer (some ⟨w.heap.size + 1, 0, none⟩)]]
      (((w.alloc (.cells #[.pointer (some ⟨d, 0, none⟩)] 22)).alloc (.cells #[.string nm] 9)).alloc (.cells #[.string nm] 9)) fun x w3 => x = .returned (.int .i64 (remP D nm).1) ∧ ∃ t', Goes d w t D w3 t' (remP D nm).2 := by
    have hb0 : Below w.heap.size w (((w.alloc (.cells #[.pointer (some ⟨d, 0, none⟩)] 22)).alloc (.cells #[.string nm] 9)).alloc (.cells #[.string nm] 9)) := (((Below.refl _ _).alloc (Nat.le_refl _) _).alloc (by simp) _).alloc (by simp; omega) _
    have g0 : (((w.alloc (.cells #[.pointer (some ⟨d, 0, none⟩)] 22)).alloc (.cells #[.string nm] 9)).alloc (.cells #[.string nm] 9)).cell? ⟨w.heap.size, 0, none⟩ = some (.pointer (some ⟨d, 0, none⟩)) := by simp [go_sem]
    have g1 : (((w.alloc (.cells #[.pointer (some ⟨d, 0, none⟩)] 22)).alloc (.cells #[.string nm] 9)).alloc (.cells #[.string nm] 9)).cell? ⟨w.heap.size + 1, 0, none⟩ = some (.string nm) := by simp [go_sem]
    have g2 : (((w.alloc (.cells #[.pointer (some ⟨d, 0, none⟩)] 22)).alloc (.cells #[.string nm] 9)).alloc (.cells #[.string nm] 9)).cell? ⟨w.heap.size + 1 + 1, 0, none⟩ = some (.string nm) := by simp [go_sem]
    obtain ⟨W, hW'⟩ : ∃ W, W = (((w.alloc (.cells #[.pointer (some ⟨d, 0, none⟩)] 22)).alloc (.cells #[.string nm] 9)).alloc (.cells #[.string nm] 9)) := ⟨_, rfl⟩
    rw [← hW'] at hb0 g0 g1 g2 ⊢
    clear hW'
    have hZ := h.below hb0
    refine (stroke_dk hZ hW (by omega) _ _ _ _ (pre1 D nm false 0) rfl rfl rfl (fun w1 hb => find1_dk (hZ.below hb) hW _ nm false 0 ((hb.cell (World.block_lt_of_cell? _ _ g2)).trans g2) hs (fun h => by cases h)) pre1_off 88 _ (enters_of Tryz.func88 (by kernel_rfl) rfl) (remK nm) ?_).mono ?_
    · intro e0 _ w2 hd2 hk2
      obtain ⟨hok, _⟩ := pre1_look e0
      exact remC_dk hd2 hW.cntS (by omega) _ nm hok _ _ (hk2.cell g0 (fun e => by simp at e; omega)) (hk2.cell g1 (fun e => by simp at e; omega))
    · rintro x w3 ⟨rfl, t', hg⟩
      exact ⟨rfl, t', (Goes.still h hb0).trans hg⟩
  have HC := hid hcall
  clear h hcall
  go_enter Tryz.func26, Tryz.ntmps26
  go_wp2_with (
    go_at_call 76
    refine HC.out.mono ?_
    rintro e w3 ⟨rfl, hx⟩
    have HX := hid hx
    clear hx)
  go_ret
  exact ⟨rfl, HX.out⟩

theorem toList_inj {a b : ByteArray} (h : a.toList = b.toList) : a = b := by
  rw [ByteArray.toList_eq, ByteArray.toList_eq] at h
  have h2 : a.data = b.data := Array.toList_inj.1 h
  cases a
  cases b
  simp only at h2
  rw [h2]

def renK (nm mn : ByteArray) (D : Dq) : Int × Dq := (0, if nm = mn then D else turnD nm mn ((lo nm D.names).getD 0) D)

theorem DkT.lookN (h : DkT w d t D) (nm : ByteArray) (m : Nat) : (Instr.lookup 47 (.map (some t.N)) (.string nm) false).run Tryz.prog (w.drewN m) = .ok (.int .i64 ((lo nm D.names).getD 0)) (w.drewN m) := by
  have := MG.look (w := w.drewN m) (h.below (below_drewN (Below.refl _ _) m)).hN Tryz.underlying47 (show Tryz.prog.underlying 9 = some KS.d from Tryz.underlying9) (zero3 (w.drewN m)) nm false
  rw [lo_lookup, h.nkeys] at this
  cases hl : lo nm D.names with
  | none => rw [hl] at this; exact this
  | some v => rw [hl] at this; exact this

set_option maxRecDepth 100000 in
set_option maxHeartbeats 1000000 in
theorem renC_dk (h : DkT w d t D) (hW : WD n D) (hn : n ≤ 1000000) (f : Value) (nm mn : ByteArray) (hok : nmOK nm = true) (hok2 : nmOK mn = true) (xf xt xd : Nat) (hxd : w.cell? ⟨xd, 0, none⟩ = some (.pointer (some ⟨d, 0, none⟩))) (hxf : w.cell? ⟨xf, 0, none⟩ = some (.string nm)) (hxt : w.cell? ⟨xt, 0, none⟩ = some (.string mn)) (hx : ∀ k, Dft d t D k → k ≠ xd ∧ k ≠ xf ∧ k ≠ xt) :
    Calls Tryz.prog 87 #[f, .pointer (some ⟨xf, 0, none⟩), .pointer (some ⟨xt, 0, none⟩), .pointer (some ⟨xd, 0, none⟩)] w fun x w' => x = .returned (.int .i64 (renK nm mn D).1) ∧ ∃ t', Goes d w t D w' t' (renK nm mn D).2 := by
  have hnm := nm_size hok
  have hmn := nm_size hok2
  have ht := hW.tur
  obtain ⟨c0, c1, c2, c3, c4, c5, c6, c7, c8, c9, c10, c11⟩ := h.disk.cells
  have hlk := h.lookN nm
  have H := hid h
  by_cases he : nm = mn
  · have e : renK nm mn D = (0, D) := by simp [renK, he]
    rw [e]
    have hb : (nm.toList == mn.toList) = true := by simp [he]
    clear h e he c0 c1 c2 c3 c5 c6 c7 c8 c9 c10 c11
    go_enter Tryz.func87, Tryz.ntmps87
    go_wp2
    (try go_quiet (fail))
    (try go_wp2)
    go_ret
    exact ⟨rfl, t, Goes.still H.out (by first | exact Below.refl _ _ | exact (Below.refl _ _).drew | exact below_drewN (Below.refl _ _) _)⟩
  · have e : renK nm mn D = (0, turnD nm mn ((lo nm D.names).getD 0) D) := by simp [renK, he]
    rw [e]
    have hb : (nm.toList == mn.toList) = false := by
      cases hq : (nm.toList == mn.toList) with
      | false => rfl
      | true => exact absurd (toList_inj (by simpa using hq)) he
    obtain ⟨fl, hfl⟩ : ∃ fl, fl = (lo nm D.names).getD 0 := ⟨_, rfl⟩
    rw [← hfl]
    simp only [← hfl] at hlk
    have hlk1 : (Instr.lookup 47 (.map (some t.N)) (.string nm) false).run Tryz.prog w.drew = .ok (.int .i64 fl) w.drew := hlk 1
    clear h e he hfl c0 c1 c2 c3 c5 c6 c7 c8 c9 c10 c11
    go_enter Tryz.func87, Tryz.ntmps87
    go_wp2_with fail
    go_region_held (fun w' => w'.cell? ⟨xd, 0, none⟩ = some (.pointer (some ⟨d, 0, none⟩)) ∧ w'.cell? ⟨xf, 0, none⟩ = some (.string nm) ∧ w'.cell? ⟨xt, 0, none⟩ = some (.string mn) ∧ w'.cell? ⟨d, 4, none⟩ = some (.map (some t.N))) (go_keep) ((
      go_at_call 78
      refine (pendN_dk (H.out.below (w' := w.drew) (Below.refl _ _).drew) nm mn fl (by omega) (by omega) (by omega)).mono ?_
      rintro e w2 ⟨rfl, t', hg, hN'⟩
      have y1 : w2.cell? ⟨xd, 0, none⟩ = some (.pointer (some ⟨d, 0, none⟩)) := hg.kp.cell (a := w.drew) hxd (fun e => (hx _ e).1 rfl)
      have y2 : w2.cell? ⟨xf, 0, none⟩ = some (.string nm) := hg.kp.cell (a := w.drew) hxf (fun e => (hx _ e).2.1 rfl)
      have y3 : w2.cell? ⟨xt, 0, none⟩ = some (.string mn) := hg.kp.cell (a := w.drew) hxt (fun e => (hx _ e).2.2 rfl)
      have y4 : w2.cell? ⟨d, 4, none⟩ = some (.map (some t.N)) := (by rw [← hN']; exact hg.dk.disk.cells.2.2.2.2.1)
      have HX := hid hg
      clear hg))
    go_wp2
    go_ret
    exact ⟨rfl, t', (Goes.still H.out (Below.refl _ _).drew).trans HX.out⟩

def renP (D : Dq) (nm mn : ByteArray) : Int × Dq := strokeP D (pre2 D nm mn) (renK nm mn)

set_option maxRecDepth 100000 in
set_option maxHeartbeats 1000000 in
theorem ren_dk (h : DkT w d t D) (hW : WD n D) (hn : n ≤ 100000) (nm mn : ByteArray) (hs : nm.size ≤ maxLen) (hs1 : mn.size ≤ maxLen) :
    Calls Tryz.prog 25 #[.pointer (some ⟨d, 0, none⟩), .string nm, .string mn] w fun x w' => x = .returned (.int .i64 (renP D nm mn).1) ∧ ∃ t', Goes d w t D w' t' (renP D nm mn).2 := by
  have hmf : ∀ (fn : Fn) (first cap : Array Value) (w : World), (Instr.makeFunc fn first cap).run Tryz.prog w = .ok (.func fn first cap) w := fun _ _ _ _ => rfl
  have hdl := hp_lt h.disk
  have hcall : Calls Tryz.prog 76 #[.pointer (some ⟨d, 0, none⟩), .agg #[.slice (some ⟨w.heap.size + 1 + 1 + 1, 0, none⟩) 2 2, .bool false, .int .i64 0], .func (.func 87) #[] #[.pointer (some ⟨w.heap.size + 1, 0, none⟩), .pointer (some ⟨w.heap.size + 1 + 1, 0, none⟩), .pointer (some ⟨w.heap.size, 0, none⟩)]]
      ((((w.alloc (.cells #[.pointer (some ⟨d, 0, none⟩)] 22)).alloc (.cells #[.string nm] 9)).alloc (.cells #[.string mn] 9)).alloc (.cells #[.string nm, .string mn] 9)) fun x w3 => x = .returned (.int .i64 (renP D nm mn).1) ∧ ∃ t', Goes d w t D w3 t' (renP D nm mn).2 := by
    have hb0 : Below w.heap.size w ((((w.alloc (.cells #[.pointer (some ⟨d, 0, none⟩)] 22)).alloc (.cells #[.string nm] 9)).alloc (.cells #[.string mn] 9)).alloc (.cells #[.string nm, .string mn] 9)) := ((((Below.refl _ _).alloc (Nat.le_refl _) _).alloc (by simp) _).alloc (by simp; omega) _).alloc (by simp; omega) _
    have g0 : ((((w.alloc (.cells #[.pointer (some ⟨d, 0, none⟩)] 22)).alloc (.cells #[.string nm] 9)).alloc (.cells #[.string mn] 9)).alloc (.cells #[.string nm, .string mn] 9)).cell? ⟨w.heap.size, 0, none⟩ = some (.pointer (some ⟨d, 0, none⟩)) := by simp [go_sem]
    have g1 : ((((w.alloc (.cells #[.pointer (some ⟨d, 0, none⟩)] 22)).alloc (.cells #[.string nm] 9)).alloc (.cells #[.string mn] 9)).alloc (.cells #[.string nm, .string mn] 9)).cell? ⟨w.heap.size + 1, 0, none⟩ = some (.string nm) := by simp [go_sem]
    have g2 : ((((w.alloc (.cells #[.pointer (some ⟨d, 0, none⟩)] 22)).alloc (.cells #[.string nm] 9)).alloc (.cells #[.string mn] 9)).alloc (.cells #[.string nm, .string mn] 9)).cell? ⟨w.heap.size + 1 + 1, 0, none⟩ = some (.string mn) := by simp [go_sem]
    have g3 : ((((w.alloc (.cells #[.pointer (some ⟨d, 0, none⟩)] 22)).alloc (.cells #[.string nm] 9)).alloc (.cells #[.string mn] 9)).alloc (.cells #[.string nm, .string mn] 9)).cell? ⟨w.heap.size + 1 + 1 + 1, 0, none⟩ = some (.string nm) := by simp [go_sem]
    have g4 : ((((w.alloc (.cells #[.pointer (some ⟨d, 0, none⟩)] 22)).alloc (.cells #[.string nm] 9)).alloc (.cells #[.string mn] 9)).alloc (.cells #[.string nm, .string mn] 9)).cell? ⟨w.heap.size + 1 + 1 + 1, 1, none⟩ = some (.string mn) := by simp [go_sem]
    obtain ⟨W, hW'⟩ : ∃ W, W = ((((w.alloc (.cells #[.pointer (some ⟨d, 0, none⟩)] 22)).alloc (.cells #[.string nm] 9)).alloc (.cells #[.string mn] 9)).alloc (.cells #[.string nm, .string mn] 9)) := ⟨_, rfl⟩
    rw [← hW'] at hb0 g0 g1 g2 g3 g4 ⊢
    clear hW'
    have hZ := h.below hb0
    refine (stroke_dk hZ hW (by omega) _ _ _ _ (pre2 D nm mn) rfl rfl rfl (fun w1 hb => find2_dk (hZ.below hb) hW _ nm mn ((hb.cell (World.block_lt_of_cell? _ _ g3)).trans g3) ((hb.cell (World.block_lt_of_cell? _ _ g4)).trans g4) hs hs1) pre2_off 87 _ (enters_of Tryz.func87 (by kernel_rfl) rfl) (renK nm mn) ?_).mono ?_
    · intro e0 _ w2 hd2 hk2
      obtain ⟨hok, hok2, _⟩ := pre2_look e0
      exact renC_dk hd2 hW.cntS (by omega) _ nm mn hok hok2 _ _ _ (hk2.cell g0 (fun e => by simp at e; omega)) (hk2.cell g1 (fun e => by simp at e; omega)) (hk2.cell g2 (fun e => by simp at e; omega)) (fun k e => by have := h.lt k e; omega)
    · rintro x w3 ⟨rfl, t', hg⟩
      exact ⟨rfl, t', (Goes.still h hb0).trans hg⟩
  have HC := hid hcall
  clear h hcall
  go_enter Tryz.func25, Tryz.ntmps25
  go_wp2_with (
    go_at_call 76
    refine HC.out.mono ?_
    rintro e w3 ⟨rfl, hx⟩
    have HX := hid hx
    clear hx)
  go_ret
  exact ⟨rfl, HX.out⟩

end
end Go.Proofs.YtlmompdfombgeaaGreat

namespace Go.Proofs.YtlmompdfombgeaaGreat
open Go.RowKit Go.MapKept

section
variable {w : World} {d : Nat} {t : Wt} {D : Dq} {n : Nat}

theorem DkT.lookL (h : DkT w d t D) (hW : WD n D) {f : Fi} (hf : f ∈ D.files) (m : Nat) : (Instr.lookup 46 (.map (some t.L)) (.int .i64 f.no) false).run Tryz.prog (w.drewN m) = .ok (.pointer (some ⟨t.pt f.no, 0, none⟩)) (w.drewN m) := by
  have := MG.look (w := w.drewN m) (h.below (below_drewN (Below.refl _ _) m)).hL Tryz.underlying46 (show Tryz.prog.underlying 3 = some KI.d from Tryz.underlying3) (zero100 (w.drewN m)) f.no false
  rw [lo_lookup, h.lkeys, ff_self hW.nd hf] at this
  exact this

set_option maxRecDepth 100000 in
set_option maxHeartbeats 1000000 in
theorem files1_dk (h : DkT w d t D) (hW : WD n D) (f : Fi) (hf : f ∈ D.files) (xd : Nat) (hxd : w.cell? ⟨xd, 0, none⟩ = some (.pointer (some ⟨d, 0, none⟩))) :
    Calls Tryz.prog 98 #[.int .i64 f.no, .pointer (some ⟨xd, 0, none⟩)] w fun e w' => ∃ Y, e = .returned (.slice (some ⟨Y, 0, none⟩) f.row.1.length f.row.1.length) ∧ Own w' Y f.row.1 ∧ w.heap.size ≤ Y ∧ Below w.heap.size w w' := by
  have hpk := hW.peak hf
  have hrp : f.row.1.length ≤ f.peak := row_le_peak f.safe f.cs
  obtain ⟨c0, c1, c2, c3, c4, c5, c6, c7, c8, c9, c10, c11⟩ := h.disk.cells
  obtain ⟨_, _, ⟨ad, cd, p2, hsn⟩, _⟩ := (h.fil f hf).cells
  have hlk : (Instr.lookup 46 (.map (some t.L)) (.int .i64 f.no) false).run Tryz.prog w = .ok (.pointer (some ⟨t.pt f.no, 0, none⟩)) w := h.lookL hW hf 0
  have HS := hid hsn
  clear h hsn c0 c1 c3 c4 c5 c6 c7 c8 c9 c10 c11
  go_enter Tryz.func98, Tryz.ntmps98
  go_wp2_with (
    go_at_call 71
    refine (copied_any _ f.row.1 _ HS.out.1 (by omega)).mono ?_
    rintro e w1 ⟨rfl, ho, hb⟩
    have H1 := hid (And.intro ho hb)
    clear ho hb)
  go_ret
  exact ⟨_, rfl, H1.out.1, Nat.le_refl _, H1.out.2⟩

set_option maxRecDepth 100000 in
set_option maxHeartbeats 1000000 in
theorem safe1_dk (h : DkT w d t D) (hW : WD n D) (f : Fi) (hf : f ∈ D.files) (xd : Nat) (hxd : w.cell? ⟨xd, 0, none⟩ = some (.pointer (some ⟨d, 0, none⟩))) :
    Calls Tryz.prog 99 #[.int .i64 f.no, .pointer (some ⟨xd, 0, none⟩)] w fun e w' => ∃ Y, e = .returned (.slice (some ⟨Y, 0, none⟩) f.safe.length f.safe.length) ∧ Own w' Y f.safe ∧ w.heap.size ≤ Y ∧ Below w.heap.size w w' := by
  have hpk := hW.peak hf
  have hrp : f.safe.length ≤ f.peak := safe_le_peak f.safe f.cs
  obtain ⟨c0, c1, c2, c3, c4, c5, c6, c7, c8, c9, c10, c11⟩ := h.disk.cells
  obtain ⟨⟨ad, cd, p2, hsn⟩, _⟩ := (h.fil f hf).cells
  have hlk : (Instr.lookup 46 (.map (some t.L)) (.int .i64 f.no) false).run Tryz.prog w = .ok (.pointer (some ⟨t.pt f.no, 0, none⟩)) w := h.lookL hW hf 0
  have HS := hid hsn
  clear h hsn c0 c1 c3 c4 c5 c6 c7 c8 c9 c10 c11
  go_enter Tryz.func99, Tryz.ntmps99
  go_wp2_with (
    go_at_call 71
    refine (copied_any _ f.safe _ HS.out.1 (by omega)).mono ?_
    rintro e w1 ⟨rfl, ho, hb⟩
    have H1 := hid (And.intro ho hb)
    clear ho hb)
  go_ret
  exact ⟨_, rfl, H1.out.1, Nat.le_refl _, H1.out.2⟩

end

/-- The names, the least first. -/
def skN (l : List (ByteArray × Int)) : List ByteArray := (sk (encN l)).map bsOf
/-- The files that have names, and their bytes. -/
def toldN (l : List (ByteArray × Int)) (cont : Int → List Int) : List (ByteArray × List Int) := (skN l).map fun nm => (nm, cont ((lo nm l).getD 0))

/-- A list of files in the heap. -/
def FbAt (w : World) (B : Nat) (v : Value) (l : List (ByteArray × List Int)) : Prop :=
  ∃ ys : List Nat, ys.length = l.length ∧ w.ownsRow B 93 2 v l.length ((l.zip ys).flatMap fun x => [.string x.1.1, .slice (some ⟨x.2, 0, none⟩) x.1.2.length x.1.2.length]) ∧ ∀ (i : Nat) (x : ByteArray × List Int) (Y : Nat), l[i]? = some x → ys[i]? = some Y → Own w Y x.2 ∧ B ≤ Y

theorem FbAt.kept {w w' : World} {B : Nat} {v : Value} {l : List (ByteArray × List Int)} {S : Nat → Prop} (h : FbAt w B v l) (hk : Kept S w w') (hS : ∀ k, B ≤ k → k < w.heap.size → ¬ S k) : FbAt w' B v l := by
  obtain ⟨ys, h1, h2, h3⟩ := h
  refine ⟨ys, h1, ownsRow_kept h2 hk (fun k e => hS k (h2.lt k e).1 (h2.lt k e).2), fun i x Y a b => ?_⟩
  obtain ⟨q1, q2⟩ := h3 i x Y a b
  exact ⟨hp_kept q1 hk (hS Y q2 (hp_lt q1)), q2⟩

theorem FbAt.below {w w' : World} {B : Nat} {v : Value} {l : List (ByteArray × List Int)} (h : FbAt w B v l) (hk : Below w.heap.size w w') : FbAt w' B v l := h.kept (Kept.ofBelow hk) (fun _ _ _ e => e)

theorem FbAt.base {w : World} {B B' : Nat} {v : Value} {l : List (ByteArray × List Int)} (h : FbAt w B v l) (hB : B' ≤ B) : FbAt w B' v l := by
  obtain ⟨ys, h1, h2, h3⟩ := h
  exact ⟨ys, h1, owns_base h2 hB, fun i x Y a b => ⟨(h3 i x Y a b).1, Nat.le_trans hB (h3 i x Y a b).2⟩⟩

theorem sk_perm {nv nv' : List (ByteArray × Value)} (h : nv.Perm nv') : sk nv = sk nv' := sort_perm (h.map _)

theorem noOf_perm {nv : List (ByteArray × Value)} {l : List (ByteArray × Int)} (h : nv.Perm (encN l)) (hk : (nv.map Prod.fst).Nodup) (s : List UInt8) : noOf nv s = (lo (bsOf s) l).getD 0 := by
  unfold noOf lk
  rw [lo_lookup, lo_perm h hk, lo_encN]
  cases lo (bsOf s) l <;> rfl

theorem sk_len (nv : List (ByteArray × Value)) : (sk nv).length = nv.length := by simp [sk, List.length_mergeSort]

/-- What told tells, over any names. -/
theorem told_dk (b c fn : Nat) (nv : List (ByteArray × Value)) (es : Array MapEntry) (lb : Array Value) (l : List (ByteArray × Int)) (cont : Int → List Int) (w : World) (h : MG KS w b nv es c) (hp : nv.Perm (encN l)) (hok : ∀ x ∈ l, nmOK x.1 = true) (hn : l.length ≤ 1000000)
    (he : ∀ args w, (callFunc fn args).run Tryz.prog w = .ok (.enter fn args) w) (hdata : ∀ x ∈ l, ∀ w1, Below w.heap.size w w1 → Calls Tryz.prog fn (#[.int .i64 x.2] ++ lb) w1 fun e w2 => ∃ Y, e = .returned (.slice (some ⟨Y, 0, none⟩) (cont x.2).length (cont x.2).length) ∧ Own w2 Y (cont x.2) ∧ w.heap.size ≤ Y ∧ Below w1.heap.size w1 w2) :
    Calls Tryz.prog 96 #[.map (some b), .func (.func fn) #[] lb] w fun x w' => ∃ v, x = .returned v ∧ FbAt w' w.heap.size v (toldN l cont) ∧ Below w.heap.size w w' := by
  have hmem : ∀ x ∈ nv, ∃ y ∈ l, x = (y.1, Value.int .i64 y.2) := fun x hx => by
    obtain ⟨y, hy, e⟩ := List.mem_map.1 (hp.mem_iff.1 hx)
    exact ⟨y, hy, e.symm⟩
  have hlen : nv.length = l.length := by rw [hp.length_eq]; simp [encN]
  refine (told_gen w.heap.size b c fn nv es lb cont w h (fun x hx => ?_) (by omega) (fun x hx => ?_) (Nat.le_refl _) he (fun x hx => ?_)).mono ?_
  · obtain ⟨y, hy, rfl⟩ := hmem x hx
    have := nm_size (hok y hy)
    unfold maxLen
    dsimp only
    omega
  · obtain ⟨y, hy, rfl⟩ := hmem x hx
    rfl
  · obtain ⟨y, hy, rfl⟩ := hmem x hx
    exact hdata y hy
  · rintro x w' ⟨v, ys, rfl, hrow, hl, hys, hb⟩
    have hsk : sk nv = sk (encN l) := sk_perm hp
    have e1 : (toldN l cont).length = nv.length := by simp [toldN, skN, ← hsk, sk_len]
    have e2 : ∀ ys : List Nat, ((toldN l cont).zip ys).flatMap (fun x => [Value.string x.1.1, .slice (some ⟨x.2, 0, none⟩) x.1.2.length x.1.2.length]) = ((sk nv).zip ys).flatMap (tcs cont nv) := by
      intro ys
      unfold toldN skN
      rw [← hsk, List.map_map, List.zip_map_left, List.flatMap_map]
      congr 1
      funext x
      simp only [tcs, Prod.map, Function.comp, noOf_perm hp h.keys, id]
    refine ⟨v, rfl, ⟨ys, by rw [e1]; exact hl, ?_, ?_⟩, hb⟩
    · rw [e1, e2]
      exact hrow
    · intro i x Y hx hY
      unfold toldN skN at hx
      rw [← hsk, List.map_map, List.getElem?_map] at hx
      cases hs : (sk nv)[i]? with
      | none => rw [hs] at hx; cases hx
      | some s =>
        rw [hs] at hx
        injection hx with hx
        subst hx
        have := hys i s Y hs hY
        rw [noOf_perm hp h.keys] at this
        exact this

section
variable {w : World} {d : Nat} {t : Wt} {D : Dq} {n : Nat}

/-- The bytes of a number's file. -/
def rowN (D : Dq) (m : Int) : List Int := ((ff m D.files).map fun f => f.row.1).getD []
/-- The safe ones. -/
def safN (D : Dq) (m : Int) : List Int := ((ff m D.files).map fun f => f.safe).getD []

def filesD (D : Dq) : List (ByteArray × List Int) := toldN D.names (rowN D)
def safeD (D : Dq) : List (ByteArray × List Int) := toldN D.safeN (safN D)

theorem WD.nlen (h : WD n D) {l : List (ByteArray × Int)} (hok : NOK D.files l) : l.length ≤ D.files.length := by
  have := (liveF_perm hok h.nd).length_eq
  rw [List.length_map, List.length_map] at this
  rw [this]
  exact List.length_filter_le _ _

theorem WD.safe0 (h : WD n D) : NOK D.files D.safeN := h.saf 0

set_option maxRecDepth 100000 in
set_option maxHeartbeats 1000000 in
theorem files_dk (h : DkT w d t D) (hW : WD n D) : Calls Tryz.prog 29 #[.pointer (some ⟨d, 0, none⟩)] w fun x w' => ∃ v, x = .returned v ∧ FbAt w' w.heap.size v (filesD D) ∧ Below w.heap.size w w' := by
  have hmf : ∀ (fn : Fn) (first cap : Array Value) (w : World), (Instr.makeFunc fn first cap).run Tryz.prog w = .ok (.func fn first cap) w := fun _ _ _ _ => rfl
  obtain ⟨c0, c1, c2, c3, c4, c5, c6, c7, c8, c9, c10, c11⟩ := h.disk.cells
  have hdl := hp_lt h.disk
  have hll := hW.nlen hW.nam
  have h3 := hW.cnt
  have h4 := hW.lim
  have hcall : Calls Tryz.prog 96 #[.map (some t.N), .func (.func 98) #[] #[.pointer (some ⟨w.heap.size, 0, none⟩)]] (w.alloc (.cells #[.pointer (some ⟨d, 0, none⟩)] 22)) fun x w' => ∃ v, x = .returned v ∧ FbAt w' w.heap.size v (filesD D) ∧ Below w.heap.size w w' := by
    have hb0 : Below w.heap.size w (w.alloc (.cells #[.pointer (some ⟨d, 0, none⟩)] 22)) := (Below.refl _ _).alloc (Nat.le_refl _) _
    have g0 : (w.alloc (.cells #[.pointer (some ⟨d, 0, none⟩)] 22)).cell? ⟨w.heap.size, 0, none⟩ = some (.pointer (some ⟨d, 0, none⟩)) := by simp [go_sem]
    obtain ⟨W, hW'⟩ : ∃ W, W = w.alloc (.cells #[.pointer (some ⟨d, 0, none⟩)] 22) := ⟨_, rfl⟩
    rw [← hW'] at hb0 g0 ⊢
    clear hW'
    have hZ := h.below hb0
    refine (told_dk t.N t.cN 98 t.kn t.eN _ D.names (rowN D) W hZ.hN hZ.pn hW.nam.ok (by omega) (enters_of Tryz.func98 (by kernel_rfl) rfl) ?_).mono ?_
    · intro x hx w1 hb1
      obtain ⟨f, hf⟩ := ff_some (hW.nam.l x hx)
      have hf2 := ff_mem hf
      rw [show rowN D x.2 = f.row.1 by simp [rowN, hf], ← hf2.2]
      refine (files1_dk (hZ.below hb1) hW f hf2.1 w.heap.size ((hb1.cell (World.block_lt_of_cell? _ _ g0)).trans g0)).mono ?_
      rintro e w2 ⟨Y, rfl, ho, hY, hb⟩
      exact ⟨Y, rfl, ho, Nat.le_trans hb1.size hY, hb⟩
    · rintro x w' ⟨v, rfl, hF, hb⟩
      exact ⟨v, rfl, hF.base hb0.size, hb0.trans (hb.mono hb0.size)⟩
  have HC := hid hcall
  clear h hcall hW c0 c1 c2 c3 c5 c6 c7 c8 c9 c10 c11
  go_enter Tryz.func29, Tryz.ntmps29
  go_wp2_with (
    go_at_call 96
    refine HC.out.mono ?_
    rintro e w1 ⟨v, rfl, hx⟩
    have HX := hid hx
    clear hx)
  go_ret
  exact ⟨v, rfl, HX.out⟩

set_option maxRecDepth 100000 in
set_option maxHeartbeats 1000000 in
theorem safe_dk (h : DkT w d t D) (hW : WD n D) : Calls Tryz.prog 30 #[.pointer (some ⟨d, 0, none⟩)] w fun x w' => ∃ v, x = .returned v ∧ FbAt w' w.heap.size v (safeD D) ∧ Below w.heap.size w w' := by
  have hmf : ∀ (fn : Fn) (first cap : Array Value) (w : World), (Instr.makeFunc fn first cap).run Tryz.prog w = .ok (.func fn first cap) w := fun _ _ _ _ => rfl
  obtain ⟨c0, c1, c2, c3, c4, c5, c6, c7, c8, c9, c10, c11⟩ := h.disk.cells
  have hdl := hp_lt h.disk
  have hll := hW.nlen hW.safe0
  have h3 := hW.cnt
  have h4 := hW.lim
  have hcall : Calls Tryz.prog 96 #[.map (some t.F), .func (.func 99) #[] #[.pointer (some ⟨w.heap.size, 0, none⟩)]] (w.alloc (.cells #[.pointer (some ⟨d, 0, none⟩)] 22)) fun x w' => ∃ v, x = .returned v ∧ FbAt w' w.heap.size v (safeD D) ∧ Below w.heap.size w w' := by
    have hb0 : Below w.heap.size w (w.alloc (.cells #[.pointer (some ⟨d, 0, none⟩)] 22)) := (Below.refl _ _).alloc (Nat.le_refl _) _
    have g0 : (w.alloc (.cells #[.pointer (some ⟨d, 0, none⟩)] 22)).cell? ⟨w.heap.size, 0, none⟩ = some (.pointer (some ⟨d, 0, none⟩)) := by simp [go_sem]
    obtain ⟨W, hW'⟩ : ∃ W, W = w.alloc (.cells #[.pointer (some ⟨d, 0, none⟩)] 22) := ⟨_, rfl⟩
    rw [← hW'] at hb0 g0 ⊢
    clear hW'
    have hZ := h.below hb0
    refine (told_dk t.F t.cF 99 t.kf t.eF _ D.safeN (safN D) W hZ.hF hZ.pf hW.safe0.ok (by omega) (enters_of Tryz.func99 (by kernel_rfl) rfl) ?_).mono ?_
    · intro x hx w1 hb1
      obtain ⟨f, hf⟩ := ff_some (hW.safe0.l x hx)
      have hf2 := ff_mem hf
      rw [show safN D x.2 = f.safe by simp [safN, hf], ← hf2.2]
      refine (safe1_dk (hZ.below hb1) hW f hf2.1 w.heap.size ((hb1.cell (World.block_lt_of_cell? _ _ g0)).trans g0)).mono ?_
      rintro e w2 ⟨Y, rfl, ho, hY, hb⟩
      exact ⟨Y, rfl, ho, Nat.le_trans hb1.size hY, hb⟩
    · rintro x w' ⟨v, rfl, hF, hb⟩
      exact ⟨v, rfl, hF.base hb0.size, hb0.trans (hb.mono hb0.size)⟩
  have HC := hid hcall
  clear h hcall hW c0 c1 c2 c3 c4 c6 c7 c8 c9 c10 c11
  go_enter Tryz.func30, Tryz.ntmps30
  go_wp2_with (
    go_at_call 96
    refine HC.out.mono ?_
    rintro e w1 ⟨v, rfl, hx⟩
    have HX := hid hx
    clear hx)
  go_ret
  exact ⟨v, rfl, HX.out⟩

end
end Go.Proofs.YtlmompdfombgeaaGreat

namespace Go.Proofs.YtlmompdfombgeaaGreat
open Go.RowKit Go.MapKept Go.Maps Go.Sort Go.Shelf

section
variable {w : World} {d : Nat} {t : Wt} {D : Dq} {n : Nat}

set_option maxRecDepth 100000 in
set_option maxHeartbeats 1000000 in
theorem heldQ_dk (h : DkT w d t D) (hW : WD n D) : Calls Tryz.prog 18 #[.pointer (some ⟨d, 0, none⟩)] w fun x w' => x = .returned (.tuple #[.int .i64 (heldD D : Nat), .int .i64 D.files.length]) ∧ Below w.heap.size w w' := by
  obtain ⟨c0, c1, c2, c3, c4, c5, c6, c7, c8, c9, c10, c11⟩ := h.disk.cells
  have HC := hid (held_dk h hW)
  clear h hW c0 c1 c3 c4 c5 c6 c7 c8 c9 c10 c11
  go_enter Tryz.func18, Tryz.ntmps18
  go_wp2_with (
    go_at_call 74
    refine HC.out.mono ?_
    rintro e w1 ⟨rfl, hb1⟩
    have HB1 := hid hb1
    clear hb1)
  go_ret2
  exact ⟨rfl, HB1.out⟩

/-- The bytes that Read answers; the error; the disk behind it. -/
def readP (D : Dq) (nm : ByteArray) : List Int × Int × Dq :=
  if pre1 D nm false 0 ≠ 0 then ([], pre1 D nm false 0, D) else if fe (fo D.fr (D.rd + 1)) ≠ 0 then ([], fe (fo D.fr (D.rd + 1)), cntR D)
  else (((D.look nm).map fun f => f.row.1).getD [], 0, cntR D)

/-- Bytes that were answered. -/
def Nb (w : World) (B : Nat) (v : Value) (bs : List Int) : Prop := (v = .slice none 0 0 ∧ bs = []) ∨ ∃ Y, v = .slice (some ⟨Y, 0, none⟩) bs.length bs.length ∧ Own w Y bs ∧ B ≤ Y

set_option maxRecDepth 100000 in
set_option maxHeartbeats 1000000 in
theorem read_dk (h : DkT w d t D) (hW : WD n D) (hn : n ≤ 100000) (nm : ByteArray) (hs : nm.size ≤ maxLen) :
    Calls Tryz.prog 15 #[.pointer (some ⟨d, 0, none⟩), .string nm] w fun x w' => ∃ v, x = .returned (.tuple #[v, .int .i64 (readP D nm).2.1]) ∧ Nb w' w.heap.size v (readP D nm).1 ∧ DkT w' d t (readP D nm).2.2 ∧ Kept (fun k => k = d) w w' := by
  have hb0 : Below w.heap.size w (w.alloc (.cells #[.string nm] 9)) := (Below.refl _ _).alloc (Nat.le_refl _) _
  have g2 : (w.alloc (.cells #[.string nm] 9)).cell? ⟨w.heap.size, 0, none⟩ = some (.string nm) := by simp [go_sem]
  have hdl := hp_lt h.disk
  have hfind := find1_dk (h.below hb0) hW w.heap.size nm false 0 g2 hs (fun h => by cases h)
  by_cases e0 : pre1 D nm false 0 = 0
  · obtain ⟨hok, _, hl⟩ := pre1_look e0
    obtain ⟨f, hl1, _⟩ := hl rfl
    have hf := (look_mem hl1).1
    have hoff := pre1_off e0
    rw [e0, show fvOf t D nm 0 = .pointer (some ⟨t.pt f.no, 0, none⟩) by simp [fvOf, hl1]] at hfind
    have HF := hid hfind
    have hpk := hW.peak hf
    have hrp : f.row.1.length ≤ f.peak := row_le_peak f.safe f.cs
    have H := hid h
    by_cases e1 : fe (fo D.fr (D.rd + 1)) = 0
    · have e : readP D nm = (f.row.1, 0, cntR D) := by simp [readP, e0, e1, hl1]
      rw [e]
      clear h hfind g2 e hl hl1 e0
      go_enter Tryz.func15, Tryz.ntmps15
      go_wp2_with (first
        | (go_at_call 69
           refine HF.out.mono ?_
           rintro e w1 ⟨rfl, hb1⟩
           have HB1 := hid (hb0.trans (hb1.mono hb0.size))
           clear hb1)
        | (go_at_call 70
           refine (countR_dk (H.out.below HB1.out) hW (by omega) hoff).mono ?_
           rintro e w2 ⟨rfl, hd2, hk2⟩
           obtain ⟨_, _, ⟨ad, cd, p2, hsn⟩, _⟩ := (hd2.fil f hf).cells
           have e1' : (fe (fo D.fr (D.rd + 1)) == 0) = true := (by simp [e1])
           have H2 := hid (And.intro hd2 (And.intro hk2 hsn))
           clear hd2 hk2 hsn)
        | (go_at_call 71
           refine (copied_any _ f.row.1 _ H2.out.2.2.1 (by omega)).mono ?_
           rintro e w3 ⟨rfl, ho, hb⟩
           have H3 := hid (And.intro ho hb)
           clear ho hb))
      go_ret2
      obtain ⟨hd2, hk2, hsn⟩ := H2.out
      obtain ⟨ho, hb⟩ := H3.out
      have hz1 := HB1.out.size
      have hz2 := hk2.size
      exact ⟨_, rfl, .inr ⟨w2.heap.size, rfl, ho, by omega⟩, hd2.below hb, (((Kept.ofBelow HB1.out).mono (fun _ _ e => e.elim)).trans hk2 (fun _ _ e => e)).trans (Kept.ofBelow hb) (fun _ _ e => e.elim)⟩
    · have e : readP D nm = ([], fe (fo D.fr (D.rd + 1)), cntR D) := by simp [readP, e0, e1]
      rw [e]
      have e1' : (fe (fo D.fr (D.rd + 1)) == 0) = false := by simpa using e1
      have hcnt : ∀ w1, Below w.heap.size w w1 → _ := fun w1 hb1 => countR_dk (h.below hb1) hW (by omega) hoff
      have HCN := hid hcnt
      obtain ⟨q, hq⟩ : ∃ q, q = fe (fo D.fr (D.rd + 1)) := ⟨_, rfl⟩
      rw [← hq] at e1' HCN ⊢
      clear h hfind g2 e hl hl1 e0 e1 hq hcnt
      go_enter Tryz.func15, Tryz.ntmps15
      go_wp2_with (first
        | (go_at_call 69
           refine HF.out.mono ?_
           rintro e w1 ⟨rfl, hb1⟩
           have HB1 := hid (hb0.trans (hb1.mono hb0.size))
           clear hb1)
        | (go_at_call 70
           refine (HCN.out w1 HB1.out).mono ?_
           rintro e w2 ⟨rfl, hd2, hk2⟩
           have H2 := hid (And.intro hd2 hk2)
           clear hd2 hk2))
      go_ret2
      obtain ⟨hd2, hk2⟩ := H2.out
      exact ⟨_, rfl, .inl ⟨rfl, rfl⟩, hd2, ((Kept.ofBelow HB1.out).mono (fun _ _ e => e.elim)).trans hk2 (fun _ _ e => e)⟩
  · have e : readP D nm = ([], pre1 D nm false 0, D) := by simp [readP, e0]
    rw [e]
    obtain ⟨q, hq⟩ : ∃ q, q = pre1 D nm false 0 := ⟨_, rfl⟩
    have e1' : (q == 0) = false := by rw [hq]; simpa using e0
    rw [← hq] at hfind ⊢
    have H := hid h
    obtain ⟨fv, hfv⟩ : ∃ fv, fv = fvOf t D nm q := ⟨_, rfl⟩
    rw [← hfv] at hfind
    have HF := hid hfind
    clear h hfind g2 e e0 hq hfv
    go_enter Tryz.func15, Tryz.ntmps15
    go_wp2_with (
      go_at_call 69
      refine HF.out.mono ?_
      rintro e w1 ⟨rfl, hb1⟩
      have HB1 := hid (hb0.trans (hb1.mono hb0.size))
      clear hb1)
    go_ret2
    exact ⟨_, rfl, .inl ⟨rfl, rfl⟩, H.out.below HB1.out, (Kept.ofBelow HB1.out).mono (fun _ _ e => e.elim)⟩

end
end Go.Proofs.YtlmompdfombgeaaGreat

namespace Go.Proofs.YtlmompdfombgeaaGreat
open Go.RowKit Go.MapKept Go.Maps Go.Sort Go.Shelf

section
variable {w : World} {d : Nat} {t : Wt} {D : Dq} {n : Nat}

theorem si_files (h : DkT w d t D) (hW : WD n D) : si t.kl = D.files.map Fi.no := by
  unfold si
  have e1 : (t.kl.map Prod.fst).Perm (D.files.map Fi.no) := by
    have := h.pl.map Prod.fst
    rw [show (encL t.pt D.files).map Prod.fst = D.files.map Fi.no by unfold encL; rw [List.map_map]; rfl] at this
    exact this
  rw [sortI_perm e1]
  exact List.mergeSort_of_pairwise (hW.asc.imp (fun h => by simpa using Int.le_of_lt h))

theorem WD.nowf (hW : WD n D) (hn : n ≤ 1000000) (h : DkT w d t D) : ∀ x ∈ t.kl, (Lit.int .i64 x.1).wf = true := by
  intro x hx
  obtain ⟨f, hf, rfl⟩ := List.mem_map.1 (h.pl.mem_iff.1 hx)
  have h1 := hW.rng f hf
  have h2 := hW.made
  have e1 : IntKind.i64.min = -9223372036854775808 := by rfl
  have e2 : IntKind.i64.max = 9223372036854775807 := by rfl
  simp [Lit.wf]
  omega

/-- How many changes are pending, file by file. -/
def pendD (D : Dq) : List Int := D.files.map fun f => (f.cs.length : Int)

set_option maxRecDepth 100000 in
set_option maxHeartbeats 1600000 in
theorem pending_dk (h : DkT w d t D) (hW : WD n D) (hn : n ≤ 100000) :
    Calls Tryz.prog 17 #[.pointer (some ⟨d, 0, none⟩)] w fun x w' => ∃ v, x = .returned (.tuple #[.int .i64 D.turns.length, v]) ∧ w'.ownsRow w.heap.size 3 1 v D.files.length ((pendD D).map (Value.int .i64)) ∧ Below w.heap.size w w' := by
  obtain ⟨c0, c1, c2, c3, c4, c5, c6, c7, c8, c9, c10, c11⟩ := h.disk.cells
  obtain ⟨av, cv, hvn⟩ := own_shape h.nam
  rw [hvn] at c6
  have h3 := hW.cnt
  have h4 := hW.lim
  have hkl : t.kl.length = D.files.length := by rw [h.pl.length_eq]; simp [encL]
  have hmk := making_gen c2 h.hL (hW.nowf (by omega) h) (by omega)
  rw [si_files h hW, hkl] at hmk
  have HM := hid hmk
  have H := hid h
  obtain ⟨i0, hi, hz0, hz1, hz2⟩ := info_parts Tryz.info3
  clear h hmk c0 c1 c3 c4 c5 c7 c8 c9 c10 c11
  go_enter Tryz.func17, Tryz.ntmps17
  go_wp2_with (
    go_at_call 73
    refine HM.out.mono ?_
    rintro e w1 ⟨v, rfl, ho, hnil, hb1⟩
    obtain ⟨ao, cp, rfl⟩ := own_shape ho
    have H1 := hid (And.intro ho (And.intro hnil hb1))
    clear ho hnil hb1)
  go_loopw [3, 11] (fun l i wr => ∃ (k : Nat) (v : Value), k ≤ D.files.length ∧ i = .int .i64 k ∧ l = v ∧ Hid (wr.ownsRow w1.heap.size 3 1 v k (((pendD D).take k).map (Value.int .i64)) ∧ Below w1.heap.size w1 wr)) (fun _ i _ => D.files.length - (intOf i).toNat)
  case atStart => exact ⟨0, .slice none 0 0, Nat.zero_le _, by go_num, rfl, hid ⟨owns_nil _ _ _ _, Below.refl _ _⟩⟩
  case round =>
    obtain ⟨k, v, hk, rfl, rfl, HR⟩ := hrel
    obtain ⟨ho1, hnil, hb1⟩ := H1.out
    obtain ⟨hrow, hbr⟩ := HR.out
    have hbw : Below w.heap.size w wr := hb1.trans (hbr.mono hb1.size)
    by_cases hlt : k < D.files.length
    · obtain ⟨f, hfe⟩ : ∃ f, f = D.files[k] := ⟨_, rfl⟩
      have hf : f ∈ D.files := by rw [hfe]; exact List.getElem_mem hlt
      obtain ⟨g, cc, e⟩ := own_some ho1 (by omega)
      injection e with e1 e2 e3
      subst e1 e3
      clear e2
      have hc1 := ho1.cells (g := g) rfl k (encZ f.no) (by simp [hlt, hfe])
      rw [add_lit, Nat.zero_add] at hc1
      have hc2 : wr.cell? ⟨g, k, none⟩ = some (.int .i64 f.no) := (hbr.cell (World.block_lt_of_cell? _ _ hc1)).trans hc1
      have hD := H.out.below hbw
      have hlk : (Instr.lookup 46 (.map (some t.L)) (.int .i64 f.no) false).run Tryz.prog wr = .ok (.pointer (some ⟨t.pt f.no, 0, none⟩)) wr := hD.lookL hW hf 0
      obtain ⟨_, ⟨ap, cap, p1⟩, _⟩ := (hD.fil f hf).cells
      have a2 := (hbw.cell (World.block_lt_of_cell? _ _ c2)).trans c2
      have hcs := (hW.chg f hf).1
      have i2 : (k : Int) < (D.files.length : Int) := by omega
      have hz := hbw.size
      have HX := hid (And.intro hfe (And.intro hrow hbr))
      clear ho1 hnil hb1 hrow hbr hbw hc1 hfe hD
      go_wp2_with (first
        | (at_builtin
           refine wpList_append_lies _ rfl _ _ 64 rfl w1.heap.size 3 i0 _ 1 8 Tryz.underlying64 hi hz0 hz1 hz2 rfl (by omega) u3 k _ rfl (HR.out.1.alloc _) ⟨wr.heap.size, 0, none⟩ 1 1 [.int .i64 f.cs.length] rfl rfl (World.news_of_block (cs := #[.int .i64 f.cs.length]) (t := 3) (fr := (0, 0)) (heap_alloc_new wr _)) (by simp [Value.oneCell']) (by omega) (by unfold maxLen; omega) (by omega) (by have a := HR.out.2.size; simp; omega) (wr.heap.size + 1) (by simp) ?_
           intro gg cq w3 hown hgrow hat hgl
           have HG := hid (And.intro hown hgrow)
           clear hown hgrow hat hgl))
      go_roundw
      case rel =>
        obtain ⟨hown, hgrow⟩ := HG.out
        obtain ⟨hfe, hrow, hbr⟩ := HX.out
        refine ⟨k + 1, _, by omega, by go_num, rfl, hid ⟨?_, ?_⟩⟩
        · have e1 : (pendD D).take (k + 1) = (pendD D).take k ++ [(f.cs.length : Int)] := by
            rw [List.take_succ_eq_append_getElem (by simp [pendD]; omega)]
            simp [pendD, hfe]
          rw [e1, List.map_append]
          exact hown
        · have K3 : Kept (fun k => u3.ownBlock = some k) wr w3 := Kept.grown ((Kept.refl _ wr).alloc _) hgrow (fun k _ e => e)
          exact hbr.trans (K3.below (by have := hbr.size; omega) (fun q hq e => by
            have := (hrow.lt _ e).1
            omega))
      case measure => simp [intOf]; omega
    · have hke : k = D.files.length := by omega
      subst hke
      have a6 := (hbw.cell (World.block_lt_of_cell? _ _ c6)).trans c6
      have HF := hid (And.intro hrow (And.intro hbr hb1))
      have i2 : ¬ (D.files.length : Int) < (D.files.length : Int) := by omega
      clear hrow hbr ho1 hnil hb1 hbw
      go_wp2
      go_ret2
      obtain ⟨hrow, hbr, hb1⟩ := HF.out
      refine ⟨u3, rfl, ?_, hb1.trans (hbr.mono hb1.size)⟩
      rw [List.take_of_length_le (by simp [pendD])] at hrow
      exact ownsRow_base_a hrow hb1.size

end
end Go.Proofs.YtlmompdfombgeaaGreat
