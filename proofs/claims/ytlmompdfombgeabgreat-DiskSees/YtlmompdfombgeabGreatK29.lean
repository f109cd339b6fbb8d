import Derived.Test.YtlmompdfombgeabGreatK28
import Derived.Test.YtlmompdfombgeabGreatK11
import Derived.Test.YtlmompdfombgeabGreatK12
namespace Go.Proofs.YtlmompdfombgeabGreat
open Go.RowKit Go.MapKept

/-- The bytes of files. -/
def szF (l : List (ByteArray × List Int)) : Nat := (l.map fun x => x.2.length).sum

theorem fb_get : ∀ (l : List (ByteArray × List Int)) (ys : List Nat) (k : Nat) (x : ByteArray × List Int) (Y : Nat), l[k]? = some x → ys[k]? = some Y →
    ((l.zip ys).flatMap fun x => [Value.string x.1.1, .slice (some ⟨x.2, 0, none⟩) x.1.2.length x.1.2.length])[k * 2]? = some (.string x.1) ∧ ((l.zip ys).flatMap fun x => [Value.string x.1.1, .slice (some ⟨x.2, 0, none⟩) x.1.2.length x.1.2.length])[k * 2 + 1]? = some (.slice (some ⟨Y, 0, none⟩) x.2.length x.2.length)
  | [], _, _, _, _, h, _ => by simp at h
  | _ :: _, [], _, _, _, _, h => by simp at h
  | y :: l, z :: ys, 0, x, Y, h, h2 => by
    simp at h h2
    subst h h2
    exact ⟨rfl, rfl⟩
  | y :: l, z :: ys, k + 1, x, Y, h, h2 => by
    have := fb_get l ys k x Y (by simpa using h) (by simpa using h2)
    rw [List.zip_cons_cons, List.flatMap_cons]
    refine ⟨?_, ?_⟩
    · rw [List.getElem?_append_right (by simp; omega)]
      simp only [List.length_cons, List.length_nil]
      rw [show (k + 1) * 2 - (0 + 1 + 1) = k * 2 by omega]
      exact this.1
    · rw [List.getElem?_append_right (by simp; omega)]
      simp only [List.length_cons, List.length_nil]
      rw [show (k + 1) * 2 + 1 - (0 + 1 + 1) = k * 2 + 1 by omega]
      exact this.2

theorem FbAt.shape {w : World} {B : Nat} {v : Value} {l : List (ByteArray × List Int)} (h : FbAt w B v l) : ∃ ao cap, v = .slice ao l.length cap := by
  obtain ⟨ys, _, h2, _⟩ := h
  exact own_shape h2

theorem FbAt.at {w : World} {B : Nat} {v : Value} {l : List (ByteArray × List Int)} (h : FbAt w B v l) (h0 : 0 < l.length) : ∃ g cap, v = .slice (some ⟨g, 0, none⟩) l.length cap ∧ ∀ i x, l[i]? = some x → ∃ Y, w.cell? ⟨g, i * 2, none⟩ = some (.string x.1) ∧ w.cell? ⟨g, i * 2 + 1, none⟩ = some (.slice (some ⟨Y, 0, none⟩) x.2.length x.2.length) ∧ Own w Y x.2 := by
  obtain ⟨ys, h1, h2, h3⟩ := h
  obtain ⟨g, cap, e⟩ := own_some h2 h0
  refine ⟨g, cap, e, fun i x hx => ?_⟩
  have hi := (List.getElem?_eq_some_iff.1 hx).1
  have hy : ys[i]? = some (ys[i]'(by omega)) := List.getElem?_eq_getElem _
  obtain ⟨c1, c2⟩ := fb_get l ys i x _ hx hy
  have q1 := h2.cells (g := g) (by rw [e]; rfl) _ _ c1
  have q2 := h2.cells (g := g) (by rw [e]; rfl) _ _ c2
  rw [add_lit, Nat.zero_add] at q1 q2
  exact ⟨_, q1, q2, (h3 i x _ hx hy).1⟩

theorem szF_take (l : List (ByteArray × List Int)) (k : Nat) (x : ByteArray × List Int) (h : l[k]? = some x) : szF (l.take (k + 1)) = szF (l.take k) + x.2.length := by
  unfold szF
  rw [List.take_add_one, h]
  simp

theorem szF_take_le (l : List (ByteArray × List Int)) (k : Nat) : szF (l.take k) ≤ szF l := sum_sub ((List.take_sublist k l).map _)

set_option maxRecDepth 100000 in
set_option maxHeartbeats 1600000 in
theorem files_same {w : World} {B B' : Nat} {v v' : Value} {l : List (ByteArray × List Int)} (h : FbAt w B v l) (h' : FbAt w B' v' l) (hl : l.length ≤ 1000000) (hs : szF l ≤ 100000000) : Calls Tryz.prog 13 #[v, v'] w fun x w' => x = .returned (.bool true) ∧ DN w w' := by
  obtain ⟨ao, cap, rfl⟩ := h.shape
  obtain ⟨ao', cap', rfl⟩ := h'.shape
  have H := hid (And.intro h h')
  clear h h'
  go_enter Tryz.func13, Tryz.ntmps13
  go_wp2
  go_loopw [5] (fun i wr => ∃ k : Nat, k ≤ l.length ∧ i = .int .i64 k ∧ DN w wr) (fun i _ => l.length - (intOf i).toNat)
  case atStart => exact ⟨0, Nat.zero_le _, by go_num, DN.refl w⟩
  case round =>
    obtain ⟨k, hk1, rfl, hdn⟩ := hrel
    by_cases hlt : k < l.length
    · obtain ⟨g, cp, e, hat⟩ := H.out.1.at (by omega)
      injection e with e _ e'
      subst e e'
      obtain ⟨g', cp', e, hat'⟩ := H.out.2.at (by omega)
      injection e with e _ e'
      subst e e'
      obtain ⟨Y, q1, q2, q3⟩ := hat k l[k] (List.getElem?_eq_getElem hlt)
      obtain ⟨Y', p1, p2, p3⟩ := hat' k l[k] (List.getElem?_eq_getElem hlt)
      have hsz : l[k].2.length ≤ szF l := by
        have h1 := szF_take l k l[k] (List.getElem?_eq_getElem hlt)
        have h2 := szF_take_le l (k + 1)
        omega
      obtain ⟨x, hx⟩ : ∃ x, x = l[k].1 := ⟨_, rfl⟩
      obtain ⟨bs, hbs⟩ : ∃ bs, bs = l[k].2 := ⟨_, rfl⟩
      rw [← hx] at q1 p1
      rw [← hbs] at q2 p2 q3 p3 hsz
      have c1 := (hdn.cell _).trans q1
      have c2 := (hdn.cell _).trans q2
      have c3 := (hdn.cell _).trans p1
      have c4 := (hdn.cell _).trans p2
      have i1 : (k : Int) < (l.length : Int) := by omega
      have hcall : ∀ n, Calls Tryz.prog 31 #[.slice (some ⟨Y, 0, none⟩) bs.length bs.length, .slice (some ⟨Y', 0, none⟩) bs.length bs.length] (wr.drewN n) fun e w' => e = .returned (.bool true) ∧ ∃ m, w' = (wr.drewN n).drewN m := fun n => by
        obtain ⟨q, rfl⟩ := hdn
        have s1 := (sl_of_owns (B := 0) (q3.owns (Nat.zero_le _) (by unfold maxLen; omega))).below (below_drewN (below_drewN (Below.refl _ w) q) n)
        have s2 := (sl_of_owns (B := 0) (p3.owns (Nat.zero_le _) (by unfold maxLen; omega))).below (below_drewN (below_drewN (Below.refl _ w) q) n)
        refine (bytes_any _ _ bs bs _ s1 s2 (by omega)).mono ?_
        rintro e w' ⟨⟨m, hm⟩, rfl⟩
        exact ⟨by simp, m, hm⟩
      have HC := hid hcall
      have hne : (!(x.toList == x.toList)) = false := by simp
      clear hx hbs q1 q2 q3 p1 p2 p3 hat hat' hcall
      go_wp2_with fail
      go_quiet ((go_at_call 31; exact Calls.quiet_of (HC.out _)))
      go_wp2
      go_roundw
      case rel => first | exact ⟨k + 1, by omega, by go_num, hdn.more _⟩ | exact ⟨k + 1, by omega, by go_num, hdn⟩ | ((repeat apply Exists.intro); exact ⟨⟨k + 1, by omega, by go_num, hdn.more _⟩, rfl⟩)
      case measure => simp [intOf]; omega
    · have i2 : ¬ (k : Int) < (l.length : Int) := by omega
      go_wp2
      go_ret
      exact ⟨rfl, hdn⟩

end Go.Proofs.YtlmompdfombgeabGreat

namespace Go.Proofs.YtlmompdfombgeabGreat
open Go.RowKit Go.MapKept

set_option maxRecDepth 100000 in
set_option maxHeartbeats 1600000 in
theorem new_ok (room files : Int) (w : World) (h0 : 0 ≤ room) (h1 : room ≤ 4194304) (h2 : 0 ≤ files) (h3 : files ≤ 512) :
    Calls Tryz.prog 34 #[.int .i64 room, .int .i64 files] w fun x w' => x = .returned (.tuple #[.pointer (some ⟨w.heap.size, 0, none⟩), .int .i64 0]) ∧ Zero w.heap.size w' w.heap.size (w.heap.size + 1) (w.heap.size + 2) (w.heap.size + 3) room files 0 0 0 0 0 ∧ Below w.heap.size w w' := by
  have hmm := @run_makeMap Tryz.prog
  go_enter Tryz.func34, Tryz.ntmps34
  go_wp2
  go_ret2
  refine ⟨rfl, ⟨?_, ?_, ?_, ?_, by omega, by omega⟩, ?_⟩
  · exact hp_alloc (hp_alloc (hp_alloc (hp_new _ _) _) _) _
  · have := hp_alloc (hp_alloc (hp_new (w.alloc (.cells #[.int .i64 room, .int .i64 files, .map (some (w.heap.size + 1)), .int .i64 0, .map (some (w.heap.size + 1 + 1)), .map (some (w.heap.size + 1 + 1 + 1)), .slice none 0 0, .bool false, .int .i64 0, .map none, .int .i64 0, .map none] 89)) (.map #[] 0)) (.map #[] 0)) (.map #[] 0)
    simpa using this
  · have := hp_alloc (hp_new ((w.alloc (.cells #[.int .i64 room, .int .i64 files, .map (some (w.heap.size + 1)), .int .i64 0, .map (some (w.heap.size + 1 + 1)), .map (some (w.heap.size + 1 + 1 + 1)), .slice none 0 0, .bool false, .int .i64 0, .map none, .int .i64 0, .map none] 89)).alloc (.map #[] 0)) (.map #[] 0)) (.map #[] 0)
    simpa using this
  · have := hp_new (((w.alloc (.cells #[.int .i64 room, .int .i64 files, .map (some (w.heap.size + 1)), .int .i64 0, .map (some (w.heap.size + 1 + 1)), .map (some (w.heap.size + 1 + 1 + 1)), .slice none 0 0, .bool false, .int .i64 0, .map none, .int .i64 0, .map none] 89)).alloc (.map #[] 0)).alloc (.map #[] 0)) (.map #[] 0)
    simpa using this
  · exact ((((Below.refl _ _).alloc (Nat.le_refl _) _).alloc (by simp) _).alloc (by simp; omega) _).alloc (by simp; omega) _

set_option maxRecDepth 100000 in
theorem strokes_any (d : Nat) (n : Int) (w : World) (h : w.cell? ⟨d, 8, none⟩ = some (.int .i64 n)) : Calls Tryz.prog 28 #[.pointer (some ⟨d, 0, none⟩)] w fun x w' => x = .returned (.int .i64 n) ∧ w' = w := by
  go_enter Tryz.func28, Tryz.ntmps28
  go_wp2
  go_ret
  exact ⟨rfl, rfl⟩

set_option maxRecDepth 100000 in
theorem reads_any (d : Nat) (n : Int) (w : World) (h : w.cell? ⟨d, 10, none⟩ = some (.int .i64 n)) : Calls Tryz.prog 29 #[.pointer (some ⟨d, 0, none⟩)] w fun x w' => x = .returned (.int .i64 n) ∧ w' = w := by
  go_enter Tryz.func29, Tryz.ntmps29
  go_wp2
  go_ret
  exact ⟨rfl, rfl⟩

section
variable {B : Nat} {w : World} {d L Nb Fb p : Nat} {nm : ByteArray} {room limit : Int} {sf : Array MapEntry} {st rd : Int} {safe : List Int} {cs : List Chg} {data : List Int} {fresh : List Bool} {peak : Int} {nn : Nat} {xs : List Value} {vn k1 k2 : Value} {pend : List Value} {vs vp vd vf : Value} {cL bL cN bN cF : Nat}

set_option maxRecDepth 100000 in
set_option maxHeartbeats 1600000 in
theorem read_one (h : One B w d L Nb Fb p nm room limit sf st rd safe cs data fresh peak nn xs vn k1 k2 pend vs vp vd vf cL bL cN bN cF) (hok : nmOK nm = true) (hs : nm.size ≤ maxLen) (hr0 : 0 ≤ rd) (hr1 : rd ≤ 1000000) (l2 : data.length ≤ 100000000) :
    Calls Tryz.prog 27 #[.pointer (some ⟨d, 0, none⟩), .string nm] w fun x w' => ∃ Y, x = .returned (.tuple #[.slice (some ⟨Y, 0, none⟩) data.length data.length, .int .i64 0]) ∧ Own w' Y data ∧ w'.cell? ⟨d, 10, none⟩ = some (.int .i64 (rd + 1)) ∧ w.heap.size ≤ Y ∧ Kept (fun k => k = d) w w' := by
  have hb0 : Below w.heap.size w (w.alloc (.cells #[.string nm] 9)) := (Below.refl _ _).alloc (Nat.le_refl _) _
  have g2 : (w.alloc (.cells #[.string nm] 9)).cell? ⟨w.heap.size, 0, none⟩ = some (.string nm) := by simp [go_sem]
  have hfind := (h.below hb0).find w.heap.size 0 g2 hok hs (by omega) (by omega)
  have HF := hid hfind
  have H := hid h
  have hdl := hp_lt h.disk
  clear h hfind g2
  go_enter Tryz.func27, Tryz.ntmps27
  go_wp2_with (first
    | (go_at_call 61
       refine HF.out.mono ?_
       rintro e w1 ⟨rfl, hb1⟩
       have HB1 := hid (hb0.trans (hb1.mono hb0.size))
       have hw1 := H.out.below HB1.out
       obtain ⟨-, -, -, -, -, -, -, -, -, -, c10, c11⟩ := hw1.disk.cells
       have hcnt := count_any d 10 rd k2 w1 _ _ hw1.disk c10 c11 hr0 (by omega) hw1.kn2
       have HCN := hid hcnt
       have HW1 := hid hw1
       clear hb1 hw1 hcnt c10 c11)
    | (go_at_call 63
       refine HCN.out.mono ?_
       rintro e w2 ⟨nq, rfl, hw2⟩
       have hk2 := (show Kept (fun k => k = d) w1 w2 from (by rw [hw2]; exact keptd (Below.refl _ _)))
       have hf2 := HW1.out.file.kept hk2 (fun e => hp_ne HW1.out.disk HW1.out.file.blk (by simp) e.symm) (fun k hq e => by subst e; exact own_ne_blk HW1.out.file.os HW1.out.disk (by decide) hq) (fun k hq e => by subst e; exact own_ne_blk HW1.out.file.op HW1.out.disk (by decide) hq) (fun k hq e => by subst e; exact own_ne_blk HW1.out.file.od HW1.out.disk (by decide) hq) (fun k hq e => by subst e; exact own_ne_blk HW1.out.file.of HW1.out.disk (by decide) hq)
       obtain ⟨-, -, p2, -, -⟩ := cells5 hf2.blk
       have hd2 := (show w2.cell? ⟨d, 10, none⟩ = some (.int .i64 (rd + 1)) from (by
         have := cell_of_row (w1.setCell ⟨d, 10, none⟩ (.int .i64 (rd + 1))) d 10 _ _ _ (set_block (i := 10) HW1.out.disk _)
         rw [hw2]
         simpa using this))
       obtain ⟨ad, cd, e0⟩ := own_shape hf2.od
       have hsl := sl_of_owns hf2.od
       rw [e0] at p2 hsl
       have H2 := hid (And.intro hk2 (And.intro hd2 hsl))
       clear hw2 hk2 hf2 hd2 hsl e0)
    | (go_at_call 39
       refine (copied_any _ data _ H2.out.2.2 (by omega)).mono ?_
       rintro e w3 ⟨rfl, ho, hb⟩
       have H3 := hid (And.intro ho hb)
       clear ho hb))
  go_ret2
  obtain ⟨hk2, hd2, hsl⟩ := H2.out
  obtain ⟨ho, hb⟩ := H3.out
  have hz1 := HB1.out.size
  have hz2 := hk2.size
  exact ⟨w2.heap.size, rfl, ho, (hb.cell (World.block_lt_of_cell? _ _ hd2)).trans hd2, by omega, (((Kept.ofBelow HB1.out).mono (fun _ _ e => e.elim)).trans hk2 (fun _ _ e => e)).trans (Kept.ofBelow hb) (fun _ _ e => e.elim)⟩

end
end Go.Proofs.YtlmompdfombgeabGreat

namespace Go.Proofs.YtlmompdfombgeabGreat
open Go.RowKit Go.MapKept

/-- A step: the error, the disk behind it. -/
def doesP (x : Sp) (D : Dq) : Int × Dq :=
  if x.kind = 1 then createP D x.name else if x.kind = 2 then appP D x.name x.data else if x.kind = 3 then cutP D x.name x.n else if x.kind = 4 then syncP D x.name
  else if x.kind = 5 then syncNP D else if x.kind = 6 then renP D x.name x.to else if x.kind = 7 then remP D x.name else if x.kind = 8 then ((readP D x.name).2.1, (readP D x.name).2.2)
  else if x.kind = 9 then (0, planD x.fs x.fr D) else if x.kind = 10 then (0, (crashP x.pn (pksOf x.pk) D).2) else if x.kind = 11 then handP D x.name x.data else (0, D)

section
variable {w : World} {d : Nat} {t : Wt} {D : Dq} {n : Nat}

theorem WD.doesP (h : WD n D) (x : Sp) : WD (n + 2) (Go.Proofs.YtlmompdfombgeabGreat.doesP x D).2 := by
  unfold Go.Proofs.YtlmompdfombgeabGreat.doesP
  repeat' split
  · exact h.createP _
  · exact h.appP _ _
  · exact h.cutP _ _
  · exact h.syncP _
  · exact h.syncNP
  · exact h.renP _ _
  · exact h.remP _
  · exact (h.readP _).mono (by omega)
  · exact (h.plan _ _).mono (by omega)
  · exact (h.crashP _ _).mono (by omega)
  · exact (h.handP _ _).mono (by omega)
  · exact h.mono (by omega)

theorem cells7 {w : World} {p : Nat} {a b c d e f g : Value} {t : TypeId} (h : w.heap[p]? = some (.cells #[a, b, c, d, e, f, g] t (0, 0))) : w.cell? ⟨p, 0, none⟩ = some a ∧ w.cell? ⟨p, 1, none⟩ = some b ∧ w.cell? ⟨p, 2, none⟩ = some c ∧ w.cell? ⟨p, 3, none⟩ = some d ∧ w.cell? ⟨p, 4, none⟩ = some e ∧ w.cell? ⟨p, 5, none⟩ = some f ∧ w.cell? ⟨p, 6, none⟩ = some g := by
  refine ⟨?_, ?_, ?_, ?_, ?_, ?_, ?_⟩ <;> (rw [cell_of_row w p _ _ _ _ h]; rfl)

/-- All that a disk tells but its counts. -/
structure TellAt (w : World) (B : Nat) (v : Value) (D : Dq) : Prop where
  ex : ∃ a1 k1 a2 k2 a3 k3, v = .agg #[.slice a1 (filesD D).length k1, .slice a2 (safeD D).length k2, .int .i64 D.turns.length, .slice a3 D.files.length k3, .int .i64 (heldD D : Nat), .int .i64 D.files.length, .bool D.off] ∧ FbAt w B (.slice a1 (filesD D).length k1) (filesD D) ∧ FbAt w B (.slice a2 (safeD D).length k2) (safeD D) ∧ w.ownsRow B 3 1 (.slice a3 D.files.length k3) D.files.length ((pendD D).map (Value.int .i64))

set_option maxRecDepth 100000 in
set_option maxHeartbeats 1600000 in
theorem tell_dk (h : DkT w d t D) (hW : WD n D) (hn : n ≤ 100000) : Calls Tryz.prog 30 #[.pointer (some ⟨d, 0, none⟩)] w fun x w' => ∃ v, x = .returned v ∧ TellAt w' w.heap.size v D ∧ Below w.heap.size w w' := by
  have hdl := hp_lt h.disk
  have H := hid h
  clear h
  have hb0 : ∀ o, Below w.heap.size w (w.alloc o) := fun o => (Below.refl _ _).alloc (Nat.le_refl _) o
  go_enter Tryz.func30, Tryz.ntmps30
  go_wp2_with (first
    | (go_at_call 25
       refine (pending_dk (H.out.below (hb0 _)) hW hn).mono ?_
       rintro e w1 ⟨vp, rfl, hp, hb1⟩
       obtain ⟨a3, k3, rfl⟩ := own_shape hp
       have hbw1 : Below w.heap.size w w1 := (hb0 _).trans (hb1.mono (hb0 _).size)
       have hr := hp_below (hp_new w _) hb1 (by simp)
       have H1 := hid (And.intro hp (And.intro hb1 hbw1))
       have HR1 := hid hr
       clear hp hb1 hbw1 hr)
    | (go_at_call 64
       refine (heldQ_dk (H.out.below H1.out.2.2) hW).mono ?_
       rintro e w2 ⟨rfl, hb2⟩
       have HR2 := hid (hp_below HR1.out hb2 (hp_lt HR1.out))
       have H2 := hid (And.intro hb2 (H1.out.2.2.trans (hb2.mono H1.out.2.2.size)))
       clear hb2)
    | (go_at_call 14
       refine (files_dk (H.out.below H2.out.2) hW).mono ?_
       rintro e w3 ⟨v1, rfl, hf3, hb3⟩
       obtain ⟨a1, k1, rfl⟩ := hf3.shape
       have HR3 := hid (hp_below HR2.out hb3 (hp_lt HR2.out))
       have H3 := hid (And.intro hf3 (And.intro hb3 (H2.out.2.trans (hb3.mono H2.out.2.size))))
       clear hf3 hb3)
    | (go_at_call 11
       refine (safe_dk (H.out.below H3.out.2.2) hW).mono ?_
       rintro e w4 ⟨v2, rfl, hf4, hb4⟩
       obtain ⟨a2, k2, rfl⟩ := hf4.shape
       have HR4 := hid (hp_below HR3.out hb4 (hp_lt HR3.out))
       have H4 := hid (And.intro hf4 (And.intro hb4 (H3.out.2.2.trans (hb4.mono H3.out.2.2.size))))
       clear hf4 hb4)
    | (go_at_call 16
       refine (off_dk (H.out.below H4.out.2.2)).mono ?_
       rintro e w5 ⟨rfl, hb5⟩
       have hr5 := hp_below HR4.out hb5 (hp_lt HR4.out)
       obtain ⟨x0, x1, x2, x3, x4, x5, x6⟩ := cells7 hr5
       have xf := (show ∀ o, w5.frozen? ⟨w.heap.size, o, none⟩ = false from fun o => free_of_block hr5)
       have HR5 := hid hr5
       clear hr5
       have H5 := hid (And.intro hb5 (H4.out.2.2.trans (hb5.mono H4.out.2.2.size)))
       clear hb5))
  obtain ⟨WZ, hWZ⟩ : ∃ WZ, WZ = (((((((w5.setCell ⟨w.heap.size, 0, none⟩ (.slice a1 (filesD D).length k1)).setCell ⟨w.heap.size, 1, none⟩ (.slice a2 (safeD D).length k2)).setCell ⟨w.heap.size, 2, none⟩ (.int .i64 D.turns.length)).setCell ⟨w.heap.size, 3, none⟩ (.slice a3 D.files.length k3)).setCell ⟨w.heap.size, 4, none⟩ (.int .i64 (heldD D : Nat))).setCell ⟨w.heap.size, 5, none⟩ (.int .i64 D.files.length)).setCell ⟨w.heap.size, 6, none⟩ (.bool D.off)) := ⟨_, rfl⟩
  rw [← hWZ]
  have KZ : Kept (fun k => k = w.heap.size) w5 WZ := by
    rw [hWZ]
    exact (((((((Kept.refl (fun k => k = w.heap.size) w5).setCell (p := ⟨w.heap.size, 0, none⟩) (fun _ => rfl) _).setCell (p := ⟨w.heap.size, 1, none⟩) (fun _ => rfl) _).setCell (p := ⟨w.heap.size, 2, none⟩) (fun _ => rfl) _).setCell (p := ⟨w.heap.size, 3, none⟩) (fun _ => rfl) _).setCell (p := ⟨w.heap.size, 4, none⟩) (fun _ => rfl) _).setCell (p := ⟨w.heap.size, 5, none⟩) (fun _ => rfl) _).setCell (p := ⟨w.heap.size, 6, none⟩) (fun _ => rfl) _
  have hblk : WZ.heap[w.heap.size]? = some (.cells #[.slice a1 (filesD D).length k1, .slice a2 (safeD D).length k2, .int .i64 D.turns.length, .slice a3 D.files.length k3, .int .i64 (heldD D : Nat), .int .i64 D.files.length, .bool D.off] 68 (0, 0)) := by
    rw [hWZ]
    exact set_block (i := 6) (set_block (i := 5) (set_block (i := 4) (set_block (i := 3) (set_block (i := 2) (set_block (i := 1) (set_block (i := 0) HR5.out _) _) _) _) _) _) _
  obtain ⟨z0, z1, z2, z3, z4, z5, z6⟩ := cells7 hblk
  clear hWZ
  refine bodyPost_ret (v := .agg #[.slice a1 (filesD D).length k1, .slice a2 (safeD D).length k2, .int .i64 D.turns.length, .slice a3 D.files.length k3, .int .i64 (heldD D : Nat), .int .i64 D.files.length, .bool D.off]) (by simp [results, Tryz.results30, go_sem, z0, z1, z2, z3, z4, z5, z6]) rfl ⟨_, rfl, ?_, ?_⟩
  · have b1 := H1.out.2.2.size
    have b2 := H2.out.2.size
    have b3 := H3.out.2.2.size
    have c1 := H1.out.2.1.size
    simp at c1
    have c2 := H2.out.1.size
    have c3 := H3.out.2.1.size
    have c4 := H4.out.2.1.size
    have b34 : Below w1.heap.size w1 w5 := ((H2.out.1.trans (H3.out.2.1.mono H2.out.1.size)).trans (H4.out.2.1.mono (by omega))).trans (H5.out.1.mono (by omega))
    have b35 : Below w3.heap.size w3 w5 := H4.out.2.1.trans (H5.out.1.mono H4.out.2.1.size)
    refine ⟨a1, k1, a2, k2, a3, k3, rfl, ?_, ?_, ?_⟩
    · refine ((H3.out.1.below b35).kept KZ (fun k hk _ e => ?_)).base (by omega)
      omega
    · refine ((H4.out.1.below H5.out.1).kept KZ (fun k hk _ e => ?_)).base (by omega)
      omega
    · have hp := H1.out.1
      refine owns_base (ownsRow_kept (ownsRow_kept hp (Kept.ofBelow b34) (fun _ _ e => e)) KZ (fun k hk e => ?_)) (Nat.le_trans (Nat.le_succ _) (by simp))
      have := (hp.lt k hk).1
      simp at this
      omega
  · exact H5.out.2.trans (KZ.below H5.out.2.size (fun k hk e => by omega))

end
end Go.Proofs.YtlmompdfombgeabGreat
