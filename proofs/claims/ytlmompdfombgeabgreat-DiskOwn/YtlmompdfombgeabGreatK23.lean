import Derived.Test.YtlmompdfombgeabGreatK22
import Derived.Test.YtlmompdfombgeabGreatK08
import Derived.Test.YtlmompdfombgeabGreatK19
namespace Go.Proofs.YtlmompdfombgeabGreat
open Go.RowKit Go.MapKept

/-- A step: the error, the disk behind it. -/
def doesP (x : Sp) (D : Dq) : Int × Dq :=
  if x.kind = 1 then createP D x.name else if x.kind = 2 then appP D x.name x.data else if x.kind = 3 then cutP D x.name x.n else if x.kind = 4 then syncP D x.name
  else if x.kind = 5 then syncNP D else if x.kind = 6 then renP D x.name x.to else if x.kind = 7 then remP D x.name else if x.kind = 8 then ((readP D x.name).2.1, (readP D x.name).2.2)
  else if x.kind = 9 then (0, planD x.fs x.fr D) else if x.kind = 10 then (0, (crashP x.pn (pksOf x.pk) D).2) else if x.kind = 11 then handP D x.name x.data else (0, D)

section
variable {w : World} {d : Nat} {t : Wt} {D : Dq} {n : Nat}

theorem WD.doesP (h : WD n D) (x : Sp) : WD (n + 2) (Go.Proofs.YtlmompdfombgeabGreat.doesP x D).2 := by
  unfold Go.Proofs.YtlmompdfombgeabGreat.doesP
  repeat' split
  · exact h.createP _
  · exact h.appP _ _
  · exact h.cutP _ _
  · exact h.syncP _
  · exact h.syncNP
  · exact h.renP _ _
  · exact h.remP _
  · exact (h.readP _).mono (by omega)
  · exact (h.plan _ _).mono (by omega)
  · exact (h.crashP _ _).mono (by omega)
  · exact (h.handP _ _).mono (by omega)
  · exact h.mono (by omega)

theorem cells7 {w : World} {p : Nat} {a b c d e f g : Value} {t : TypeId} (h : w.heap[p]? = some (.cells #[a, b, c, d, e, f, g] t (0, 0))) : w.cell? ⟨p, 0, none⟩ = some a ∧ w.cell? ⟨p, 1, none⟩ = some b ∧ w.cell? ⟨p, 2, none⟩ = some c ∧ w.cell? ⟨p, 3, none⟩ = some d ∧ w.cell? ⟨p, 4, none⟩ = some e ∧ w.cell? ⟨p, 5, none⟩ = some f ∧ w.cell? ⟨p, 6, none⟩ = some g := by
  refine ⟨?_, ?_, ?_, ?_, ?_, ?_, ?_⟩ <;> (rw [cell_of_row w p _ _ _ _ h]; rfl)

/-- All that a disk tells but its counts. -/
structure TellAt (w : World) (B : Nat) (v : Value) (D : Dq) : Prop where
  ex : ∃ a1 k1 a2 k2 a3 k3, v = .agg #[.slice a1 (filesD D).length k1, .slice a2 (safeD D).length k2, .int .i64 D.turns.length, .slice a3 D.files.length k3, .int .i64 (heldD D : Nat), .int .i64 D.files.length, .bool D.off] ∧ FbAt w B (.slice a1 (filesD D).length k1) (filesD D) ∧ FbAt w B (.slice a2 (safeD D).length k2) (safeD D) ∧ w.ownsRow B 3 1 (.slice a3 D.files.length k3) D.files.length ((pendD D).map (Value.int .i64))

set_option maxRecDepth 100000 in
set_option maxHeartbeats 1600000 in
theorem tell_dk (h : DkT w d t D) (hW : WD n D) (hn : n ≤ 100000) : Calls Tryz.prog 30 #[.pointer (some ⟨d, 0, none⟩)] w fun x w' => ∃ v, x = .returned v ∧ TellAt w' w.heap.size v D ∧ Below w.heap.size w w' := by
  have hdl := hp_lt h.disk
  have H := hid h
  clear h
  have hb0 : ∀ o, Below w.heap.size w (w.alloc o) := fun o => (Below.refl _ _).alloc (Nat.le_refl _) o
  go_enter Tryz.func30, Tryz.ntmps30
  go_wp2_with (first
    | (go_at_call 25
       refine (pending_dk (H.out.below (hb0 _)) hW hn).mono ?_
       rintro e w1 ⟨vp, rfl, hp, hb1⟩
       obtain ⟨a3, k3, rfl⟩ := own_shape hp
       have hbw1 : Below w.heap.size w w1 := (hb0 _).trans (hb1.mono (hb0 _).size)
       have hr := hp_below (hp_new w _) hb1 (by simp)
       have H1 := hid (And.intro hp (And.intro hb1 hbw1))
       have HR1 := hid hr
       clear hp hb1 hbw1 hr)
    | (go_at_call 64
       refine (heldQ_dk (H.out.below H1.out.2.2) hW).mono ?_
       rintro e w2 ⟨rfl, hb2⟩
       have HR2 := hid (hp_below HR1.out hb2 (hp_lt HR1.out))
       have H2 := hid (And.intro hb2 (H1.out.2.2.trans (hb2.mono H1.out.2.2.size)))
       clear hb2)
    | (go_at_call 14
       refine (files_dk (H.out.below H2.out.2) hW).mono ?_
       rintro e w3 ⟨v1, rfl, hf3, hb3⟩
       obtain ⟨a1, k1, rfl⟩ := hf3.shape
       have HR3 := hid (hp_below HR2.out hb3 (hp_lt HR2.out))
       have H3 := hid (And.intro hf3 (And.intro hb3 (H2.out.2.trans (hb3.mono H2.out.2.size))))
       clear hf3 hb3)
    | (go_at_call 11
       refine (safe_dk (H.out.below H3.out.2.2) hW).mono ?_
       rintro e w4 ⟨v2, rfl, hf4, hb4⟩
       obtain ⟨a2, k2, rfl⟩ := hf4.shape
       have HR4 := hid (hp_below HR3.out hb4 (hp_lt HR3.out))
       have H4 := hid (And.intro hf4 (And.intro hb4 (H3.out.2.2.trans (hb4.mono H3.out.2.2.size))))
       clear hf4 hb4)
    | (go_at_call 16
       refine (off_dk (H.out.below H4.out.2.2)).mono ?_
       rintro e w5 ⟨rfl, hb5⟩
       have hr5 := hp_below HR4.out hb5 (hp_lt HR4.out)
       obtain ⟨x0, x1, x2, x3, x4, x5, x6⟩ := cells7 hr5
       have xf := (show ∀ o, w5.frozen? ⟨w.heap.size, o, none⟩ = false from fun o => free_of_block hr5)
       have HR5 := hid hr5
       clear hr5
       have H5 := hid (And.intro hb5 (H4.out.2.2.trans (hb5.mono H4.out.2.2.size)))
       clear hb5))
  obtain ⟨WZ, hWZ⟩ : ∃ WZ, WZ = (((((((w5.setCell ⟨w.heap.size, 0, none⟩ (.slice a1 (filesD D).length k1)).setCell ⟨w.heap.size, 1, none⟩ (.slice a2 (safeD D).length k2)).setCell ⟨w.heap.size, 2, none⟩ (.int .i64 D.turns.length)).setCell ⟨w.heap.size, 3, none⟩ (.slice a3 D.files.length k3)).setCell ⟨w.heap.size, 4, none⟩ (.int .i64 (heldD D : Nat))).setCell ⟨w.heap.size, 5, none⟩ (.int .i64 D.files.length)).setCell ⟨w.heap.size, 6, none⟩ (.bool D.off)) := ⟨_, rfl⟩
  rw [← hWZ]
  have KZ : Kept (fun k => k = w.heap.size) w5 WZ := by
    rw [hWZ]
    exact (((((((Kept.refl (fun k => k = w.heap.size) w5).setCell (p := ⟨w.heap.size, 0, none⟩) (fun _ => rfl) _).setCell (p := ⟨w.heap.size, 1, none⟩) (fun _ => rfl) _).setCell (p := ⟨w.heap.size, 2, none⟩) (fun _ => rfl) _).setCell (p := ⟨w.heap.size, 3, none⟩) (fun _ => rfl) _).setCell (p := ⟨w.heap.size, 4, none⟩) (fun _ => rfl) _).setCell (p := ⟨w.heap.size, 5, none⟩) (fun _ => rfl) _).setCell (p := ⟨w.heap.size, 6, none⟩) (fun _ => rfl) _
  have hblk : WZ.heap[w.heap.size]? = some (.cells #[.slice a1 (filesD D).length k1, .slice a2 (safeD D).length k2, .int .i64 D.turns.length, .slice a3 D.files.length k3, .int .i64 (heldD D : Nat), .int .i64 D.files.length, .bool D.off] 68 (0, 0)) := by
    rw [hWZ]
    exact set_block (i := 6) (set_block (i := 5) (set_block (i := 4) (set_block (i := 3) (set_block (i := 2) (set_block (i := 1) (set_block (i := 0) HR5.out _) _) _) _) _) _) _
  obtain ⟨z0, z1, z2, z3, z4, z5, z6⟩ := cells7 hblk
  clear hWZ
  refine bodyPost_ret (v := .agg #[.slice a1 (filesD D).length k1, .slice a2 (safeD D).length k2, .int .i64 D.turns.length, .slice a3 D.files.length k3, .int .i64 (heldD D : Nat), .int .i64 D.files.length, .bool D.off]) (by simp [results, Tryz.results30, go_sem, z0, z1, z2, z3, z4, z5, z6]) rfl ⟨_, rfl, ?_, ?_⟩
  · have b1 := H1.out.2.2.size
    have b2 := H2.out.2.size
    have b3 := H3.out.2.2.size
    have c1 := H1.out.2.1.size
    simp at c1
    have c2 := H2.out.1.size
    have c3 := H3.out.2.1.size
    have c4 := H4.out.2.1.size
    have b34 : Below w1.heap.size w1 w5 := ((H2.out.1.trans (H3.out.2.1.mono H2.out.1.size)).trans (H4.out.2.1.mono (by omega))).trans (H5.out.1.mono (by omega))
    have b35 : Below w3.heap.size w3 w5 := H4.out.2.1.trans (H5.out.1.mono H4.out.2.1.size)
    refine ⟨a1, k1, a2, k2, a3, k3, rfl, ?_, ?_, ?_⟩
    · refine ((H3.out.1.below b35).kept KZ (fun k hk _ e => ?_)).base (by omega)
      omega
    · refine ((H4.out.1.below H5.out.1).kept KZ (fun k hk _ e => ?_)).base (by omega)
      omega
    · have hp := H1.out.1
      refine owns_base (ownsRow_kept (ownsRow_kept hp (Kept.ofBelow b34) (fun _ _ e => e)) KZ (fun k hk e => ?_)) (Nat.le_trans (Nat.le_succ _) (by simp))
      have := (hp.lt k hk).1
      simp at this
      omega
  · exact H5.out.2.trans (KZ.below H5.out.2.size (fun k hk e => by omega))

end
end Go.Proofs.YtlmompdfombgeabGreat

namespace Go.Proofs.YtlmompdfombgeabGreat
open Go.RowKit Go.MapKept

section
variable {w : World} {d : Nat} {t : Wt} {D : Dq} {n : Nat}

/-- What is reached from names, as files. -/
theorem reach_perm (h : DkT w d t D) (hnd : (D.files.map Fi.no).Nodup) {nv : List (ByteArray × Value)} {l : List (ByteArray × Int)} (hp : nv.Perm (encN l)) (hok : NOK D.files l) : (nv.map (lvOf t.kl)).Perm (encL t.pt (liveF l D.files)) := by
  refine (hp.map (lvOf t.kl)).trans ?_
  have e1 : (encN l).map (lvOf t.kl) = (l.map Prod.snd).map (fun m => (m, Value.pointer (some ⟨t.pt m, 0, none⟩))) := by
    unfold encN
    rw [List.map_map, List.map_map]
    refine List.map_congr_left fun y hy => ?_
    obtain ⟨f, hf, e⟩ := List.mem_map.1 (hok.l y hy)
    have h1 : lo y.2 t.kl = some (.pointer (some ⟨t.pt y.2, 0, none⟩)) := by
      rw [h.lkeys, ← e, ff_self hnd hf]
      rfl
    show (y.2, (t.kl.lookup y.2).getD (.pointer none)) = (y.2, _)
    rw [lo_lookup, h1]
    rfl
  have e2 : encL t.pt (liveF l D.files) = ((liveF l D.files).map Fi.no).map (fun m => (m, Value.pointer (some ⟨t.pt m, 0, none⟩))) := by
    unfold encL
    rw [List.map_map]
    rfl
  rw [e1, e2]
  exact (liveF_perm hok hnd).map _

theorem ints_of_perm {nv : List (ByteArray × Value)} {l : List (ByteArray × Int)} (hp : nv.Perm (encN l)) (hn : (l.map Prod.snd).Nodup) : (∀ x ∈ nv, x.2 = .int .i64 (iv x.2)) ∧ (nv.map (fun x => iv x.2)).Nodup := by
  refine ⟨fun x hx => ?_, ?_⟩
  · obtain ⟨y, _, e⟩ := List.mem_map.1 (hp.mem_iff.1 hx)
    subst e
    rfl
  · have e1 := hp.map (fun x : ByteArray × Value => iv x.2)
    rw [e1.nodup_iff]
    have e2 : (encN l).map (fun x : ByteArray × Value => iv x.2) = l.map Prod.snd := by
      unfold encN
      rw [List.map_map]
      rfl
    rw [e2]
    exact hn

theorem handP_name {nm : ByteArray} {ys : List Int} (h : nmOK nm = false) : handP D nm ys = (5, D) := by simp [handP, h]
theorem hand_head {w wb : World} {es : Array MapEntry} {c : Nat} (hg : (w.alloc (.map es c)).grownBy wb (some w.heap.size)) : Below w.heap.size w wb := by
  have K : Kept (fun k => k = w.heap.size) w wb := ((Kept.refl (fun k => k = w.heap.size) w).alloc _).grown hg (fun k _ e => by cases e; rfl)
  exact K.below (Nat.le_refl _) (fun k hk e => by omega)

theorem hand_upd {w5 w6 : World} {d N B : Nat} {t t5 : Wt} {D D5 : Dq} (h5 : DkT w5 d t5 D5) (hg : w5.grownBy w6 (some N)) (hf : ∀ k, Dft d t5 D5 k → Dft d t D k ∨ B ≤ k) (hlt : ∀ k, Dft d t D k → k < N) (hN : N < B) : DkT w6 d t5 D5 := by
  have k6 : Kept (fun k => k = N) w5 w6 := (Kept.refl (fun k => k = N) w5).grown hg (fun k _ e => by cases e; rfl)
  refine h5.kept k6 (fun k e e2 => ?_)
  rcases hf k e with e | e
  · have := hlt k e; omega
  · omega

set_option maxRecDepth 100000 in
set_option maxHeartbeats 3200000 in
theorem hand_dk (h : DkT w d t D) (hW : WD n D) (hn : n ≤ 100000) (nm : ByteArray) (hs : nm.size ≤ maxLen) (ao : Option Addr) (cap : Nat) (ys : List Int) (hsl : Sl w (.slice ao ys.length cap) ys) (hsd : ys ≠ [] → ∀ k, (Value.slice ao ys.length cap).ownBlock = some k → ¬ Dft d t D k) (hy : ys.length ≤ 1000000) :
    Calls Tryz.prog 36 #[.pointer (some ⟨d, 0, none⟩), .string nm, .slice ao ys.length cap] w fun x w' => x = .returned (.int .i64 (handP D nm ys).1) ∧ ∃ t', Goes d w t D w' t' (handP D nm ys).2 := by
  cases hok : nmOK nm
  · rw [handP_name hok]
    go_enter Tryz.func36, Tryz.ntmps36
    go_wp2_with (go_at_call 67; refine (isName_any nm _ hs).mono ?_; rw [hok]; rintro e w' ⟨rfl, rfl⟩)
    go_ret
    exact ⟨rfl, t, Goes.still h (Below.refl _ _)⟩
  obtain ⟨l, hl⟩ : ∃ l, l = delA nm D.names := ⟨_, rfl⟩
  have hNl : NOK D.files l := by rw [hl]; exact hW.nam.del nm
  have hpl : (delK nm t.kn).Perm (encN l) := by rw [hl, ← encN_del]; exact delK_perm nm h.pn
  obtain ⟨hi1, hi2⟩ := ints_of_perm hpl hNl.n
  have hdl := hp_lt h.disk
  obtain ⟨c0, c1, c2, c3, c4, c5, c6, c7, c8, c9, c10, c11⟩ := h.disk.cells
  have hroom := hW.room
  have hlim := hW.lim
  have hcnt := hW.cnt
  have hsub : (liveF l D.files).Sublist D.files := List.filter_sublist
  have hlen := hsub.length_le
  have hsum : ((liveF l D.files).map Fi.peak).sum ≤ (D.files.map Fi.peak).sum := sum_sub (hsub.map _)
  have hhld := hW.hld
  obtain ⟨m, hm⟩ : ∃ m, m = (liveF l D.files).length := ⟨_, rfl⟩
  obtain ⟨s, hs'⟩ : ∃ s, s = ((liveF l D.files).map Fi.peak).sum := ⟨_, rfl⟩
  have hs1 : s ≤ 4194304 := by omega
  have hm1 : m ≤ 512 := by omega
  have hMa : MG KS (w.alloc (.map t.eN t.cN)) w.heap.size t.kn t.eN t.cN := ⟨hp_new _ _, h.hN.hold, h.hN.nd, h.hN.kvs, h.hN.keys⟩
  have hLl : t.L < w.heap.size := hp_lt h.hL.blk
  have hmd := hW.made
  have hreach := reach_perm h hW.nd hpl hNl
  have hheld : ∀ (w2 : World) (b c : Nat) (kv : List (Int × Value)) (es : Array MapEntry), Below w.heap.size w w2 → MG KI w2 b kv es c → kv.Perm ((delK nm t.kn).map (lvOf t.kl)) → Calls Tryz.prog 57 #[.map (some b)] w2 fun x w' => x = .returned (.tuple #[.int .i64 (s : Nat), .int .i64 (m : Nat)]) ∧ Below w2.heap.size w2 w' := by
    intro w2 b c kv es hb hM hp
    rw [hs', hm]
    exact held_gen hM t.pt t.ft (liveF l D.files) (hp.trans hreach) (hW.nd.sublist (hsub.map _)) (fun f hf => (h.fil f (hsub.subset hf)).below hb) (by omega) (by omega)
  have hperm : (setK nm (.int .i64 (D.made + 1)) (delK nm t.kn)).Perm (encN (setA nm (D.made + 1) l)) := by
    refine (setK_perm nm _ _ (delK_keys nm h.hN.keys)).trans ?_
    unfold setA
    rw [show encN (delA nm l ++ [(nm, D.made + 1)]) = encN (delA nm l) ++ [(nm, .int .i64 (D.made + 1))] by simp [encN]]
    refine List.Perm.append_right _ ?_
    rw [← encN_del]
    exact delK_perm nm hpl
  have hnok : NOK (addD ys D).files (setA nm (D.made + 1) l) := by rw [hl]; exact hand_nok hW nm ys hok
  have hnd6 : ((addD ys D).files.map Fi.no).Nodup := by
    show ((D.files ++ [(⟨D.made + 1, ys, []⟩ : Fi)]).map Fi.no).Nodup
    rw [List.map_append, List.nodup_append]
    refine ⟨hW.nd, by simp, fun a ha b hb => ?_⟩
    obtain ⟨g, hg, rfl⟩ := List.mem_map.1 ha
    simp at hb
    have := (hW.rng g hg).2
    omega
  have hkb : ∀ b, t.k1 = .map (some b) ∨ t.k2 = .map (some b) → b < w.heap.size := fun b e => by
    rcases e with e | e
    · exact h.lt b (.inr (.inr (.inr (.inr (.inr (.inl e))))))
    · exact h.lt b (.inr (.inr (.inr (.inr (.inr (.inr (.inl e)))))))
  have HM := hid (And.intro hMa (And.intro h.hL (And.intro hi1 (And.intro hi2 c2))))
  have HX := hid (And.intro hheld (And.intro hperm (And.intro hnok (And.intro hnd6 (And.intro hkb (And.intro hsl hsd))))))
  have H := hid (And.intro h hW)
  have hP : handP D nm ys = if D.limit ≤ (m : Int) then (9, D) else if D.room - (s : Nat) < (ys.length : Int) then (8, D) else (0, settleD (setA nm (D.made + 1) l) (addD ys D)) := by
    unfold handP
    rw [if_neg (by rw [hok]; simp), ← hl, ← hm, ← hs']
  rw [hP]
  have hs9 : nm.size ≤ 281474976710656 := by have := nm_size hok; omega
  clear hP h hNl hpl hi1 hi2 hsl hsd hsub hlen hsum hhld hcnt hheld hperm hnok hnd6 hkb hMa hreach hl hm hs' hW c2 c3 c5 c6 c7 c8 c9 c10 c11
  by_cases e1 : D.limit ≤ (m : Int)
  · rw [if_pos e1]
    go_enter Tryz.func36, Tryz.ntmps36
    go_wp2_with (first
      | (go_at_call 67; refine (isName_any nm _ hs).mono ?_; rw [hok]; rintro e w' ⟨rfl, e1⟩; rw [e1]; clear e1 w')
      | (go_at_call 42; refine (mapsClone_any t.N t.eN t.cN _ H.out.1.hN.blk).mono ?_; rintro e wa ⟨rfl, e1⟩; rw [e1]; clear e1 wa)
      | (at_delete
         refine wpList_del_gen (K := KS) _ rfl _ _ 83 _ rfl rfl 9 3 Tryz.underlying83 Tryz.underlying9 w.heap.size t.kn t.eN t.cN HM.out.1 rfl nm rfl ?_
         intro es1 wb hM1 hg1 hz1
         have hbb := hand_head hg1.out
         have H1 := hid (And.intro hM1.out hbb)
         clear hM1 hg1 hz1 hbb)
      | (go_at_call 68
         refine (reached_any d t.L w.heap.size t.cL t.cN t.kl (delK nm t.kn) t.eL es1 wb ((H1.out.2.cell hdl).trans HM.out.2.2.2.2) (HM.out.2.1.below H1.out.2) H1.out.1 HM.out.2.2.1 HM.out.2.2.2.1).mono ?_
         rintro e w2 ⟨rfl, ⟨kv2, es2, cc2, hM2, hp2⟩, hb2⟩
         have H2 := hid (And.intro hM2 (And.intro hp2 (And.intro hb2 (H1.out.2.trans (hb2.mono H1.out.2.size)))))
         clear hM2 hp2 hb2)
      | (go_at_call 57
         refine (HX.out.1 _ _ _ _ _ H2.out.2.2.2 H2.out.1 H2.out.2.1).mono ?_
         rintro e w3 ⟨rfl, hb3⟩
         have hbw3 := H2.out.2.2.2.trans (hb3.mono H2.out.2.2.2.size)
         have a0 := (hbw3.cell hdl).trans c0
         have a1 := (hbw3.cell hdl).trans c1
         have H3 := hid (And.intro hb3 hbw3)
         clear hb3 hbw3))
    go_ret
    exact ⟨rfl, t, Goes.still H.out.1 H3.out.2⟩
  · rw [if_neg e1]
    by_cases e2 : D.room - (s : Nat) < (ys.length : Int)
    · rw [if_pos e2]
      go_enter Tryz.func36, Tryz.ntmps36
      go_wp2_with (first
        | (go_at_call 67; refine (isName_any nm _ hs).mono ?_; rw [hok]; rintro e w' ⟨rfl, e1⟩; rw [e1]; clear e1 w')
        | (go_at_call 42; refine (mapsClone_any t.N t.eN t.cN _ H.out.1.hN.blk).mono ?_; rintro e wa ⟨rfl, e1⟩; rw [e1]; clear e1 wa)
        | (at_delete
           refine wpList_del_gen (K := KS) _ rfl _ _ 83 _ rfl rfl 9 3 Tryz.underlying83 Tryz.underlying9 w.heap.size t.kn t.eN t.cN HM.out.1 rfl nm rfl ?_
           intro es1 wb hM1 hg1 hz1
           have hbb := hand_head hg1.out
           have H1 := hid (And.intro hM1.out hbb)
           clear hM1 hg1 hz1 hbb)
        | (go_at_call 68
           refine (reached_any d t.L w.heap.size t.cL t.cN t.kl (delK nm t.kn) t.eL es1 wb ((H1.out.2.cell hdl).trans HM.out.2.2.2.2) (HM.out.2.1.below H1.out.2) H1.out.1 HM.out.2.2.1 HM.out.2.2.2.1).mono ?_
           rintro e w2 ⟨rfl, ⟨kv2, es2, cc2, hM2, hp2⟩, hb2⟩
           have H2 := hid (And.intro hM2 (And.intro hp2 (And.intro hb2 (H1.out.2.trans (hb2.mono H1.out.2.size)))))
           clear hM2 hp2 hb2)
        | (go_at_call 57
           refine (HX.out.1 _ _ _ _ _ H2.out.2.2.2 H2.out.1 H2.out.2.1).mono ?_
           rintro e w3 ⟨rfl, hb3⟩
           have hbw3 := H2.out.2.2.2.trans (hb3.mono H2.out.2.2.2.size)
           have a0 := (hbw3.cell hdl).trans c0
           have a1 := (hbw3.cell hdl).trans c1
           have H3 := hid (And.intro hb3 hbw3)
           clear hb3 hbw3))
      go_ret
      exact ⟨rfl, t, Goes.still H.out.1 H3.out.2⟩
    · rw [if_neg e2]
      go_enter Tryz.func36, Tryz.ntmps36
      go_wp2_with (first
        | (go_at_call 67; refine (isName_any nm _ hs).mono ?_; rw [hok]; rintro e w' ⟨rfl, e1⟩; rw [e1]; clear e1 w')
        | (go_at_call 42; refine (mapsClone_any t.N t.eN t.cN _ H.out.1.hN.blk).mono ?_; rintro e wa ⟨rfl, e1⟩; rw [e1]; clear e1 wa)
        | (at_delete
           refine wpList_del_gen (K := KS) _ rfl _ _ 83 _ rfl rfl 9 3 Tryz.underlying83 Tryz.underlying9 w.heap.size t.kn t.eN t.cN HM.out.1 rfl nm rfl ?_
           intro es1 wb hM1 hg1 hz1
           have hbb := hand_head hg1.out
           have hz9 := (show w.heap.size < wb.heap.size from hp_lt hM1.out.blk)
           have H1 := hid (And.intro hM1.out hbb)
           clear hM1 hg1 hz1 hbb)
        | (go_at_call 68
           refine (reached_any d t.L w.heap.size t.cL t.cN t.kl (delK nm t.kn) t.eL es1 wb ((H1.out.2.cell hdl).trans HM.out.2.2.2.2) (HM.out.2.1.below H1.out.2) H1.out.1 HM.out.2.2.1 HM.out.2.2.2.1).mono ?_
           rintro e w2 ⟨rfl, ⟨kv2, es2, cc2, hM2, hp2⟩, hb2⟩
           have H2 := hid (And.intro hM2 (And.intro hp2 (And.intro hb2 (H1.out.2.trans (hb2.mono H1.out.2.size)))))
           clear hM2 hp2 hb2)
        | (go_at_call 57
           refine (HX.out.1 _ _ _ _ _ H2.out.2.2.2 H2.out.1 H2.out.2.1).mono ?_
           rintro e w3 ⟨rfl, hb3⟩
           have hbw3 := H2.out.2.2.2.trans (hb3.mono H2.out.2.2.2.size)
           have a0 := (hbw3.cell hdl).trans c0
           have a1 := (hbw3.cell hdl).trans c1
           have H3 := hid (And.intro (H2.out.2.2.1.trans (hb3.mono H2.out.2.2.1.size)) hbw3)
           clear hb3 hbw3)
        | (go_at_call 69
           refine (strClone_any nm _ hs9).mono ?_
           rintro e w4 ⟨rfl, hb4⟩
           have H4 := hid (And.intro (H3.out.1.trans (hb4.mono H3.out.1.size)) (H3.out.2.trans (hb4.mono H3.out.2.size)))
           clear hb4)
        | (go_at_call 55
           refine (add_dk (H.out.1.below H4.out.2) H.out.2 (by omega) _ ys (HX.out.2.2.2.2.2.1.below H4.out.2) (by omega) (fun hne k hk e => HX.out.2.2.2.2.2.2 hne k hk (.inl e))).mono ?_
           rintro e w5 ⟨rfl, t5, hd5, hk5, hf5, e51, e52⟩
           have hM5 := (show MG KS w5 w.heap.size (delK nm t.kn) es1 t.cN from (H1.out.1.below H4.out.1).kept hk5 (by omega))
           have H5 := hid (And.intro hd5 (And.intro hk5 (And.intro hf5 (And.intro e51 e52))))
           have HM5 := hid hM5
           clear hd5 hk5 hf5 e51 e52 hM5)
        | (at_mapUpdate
           refine wpList_upd_gen (K := KS) _ rfl _ _ _ 83 rfl 9 3 Tryz.underlying83 Tryz.underlying9 w.heap.size _ es1 t.cN HM5.out rfl nm _ rfl rfl ?_
           intro es6 cc6 w6 hM6 hg6 hz6
           have hd6 := hand_upd H5.out.1 hg6.out H5.out.2.2.1 (fun k e => H.out.1.lt k e) (by have := H4.out.1.size; omega)
           have H6 := hid (And.intro hM6.out (And.intro hg6.out hd6))
           clear hM6 hg6 hz6 hd6)
        | (go_at_call 45
           refine (settle_dk H6.out.2.2 HX.out.2.2.2.1 w.heap.size cc6 _ es6 H6.out.1 (setA nm (D.made + 1) l) HX.out.2.1 HX.out.2.2.1 (by
             rw [H5.out.2.2.2.1, H5.out.2.2.2.2]
             intro b e
             have := HX.out.2.2.2.2.1 b e
             omega)).mono ?_
           rintro e w7 ⟨rfl, t7, hd7, hk7, hf7, -⟩
           have H7 := hid (And.intro hd7 (And.intro hk7 hf7))
           clear hd7 hk7 hf7))
      go_ret
      obtain ⟨hd7, hk7, hf7⟩ := H7.out
      obtain ⟨hd5, hk5, hf5, -⟩ := H5.out
      have z4 := H4.out.2.size
      have k6 : Kept (fun k => k = w.heap.size) w5 w6 := (Kept.refl (fun k => k = w.heap.size) w5).grown H6.out.2.1 (fun k _ e => by cases e; rfl)
      have z5 := hk5.size
      have z6 := k6.size
      have zb := H4.out.1.size
      refine ⟨rfl, t7, hd7, ?_, ?_⟩
      · have kA : Kept (Dft d t D) w w4 := (Kept.ofBelow H4.out.2).mono (fun _ _ e => e.elim)
        refine ((kA.trans hk5 ?_).trans k6 ?_).trans hk7 ?_
        · rintro i _ (e | e)
          · exact .inl e
          · exact .inr (.inl e)
        · intro i hi e; omega
        · intro i _ e; exact .inl e
      · intro k e
        rcases hf7 k e with e | e | e
        · rcases hf5 k e with e | e
          · exact .inl e
          · exact .inr (by omega)
        · exact .inr (by omega)
        · exact .inr (by omega)

end
end Go.Proofs.YtlmompdfombgeabGreat
