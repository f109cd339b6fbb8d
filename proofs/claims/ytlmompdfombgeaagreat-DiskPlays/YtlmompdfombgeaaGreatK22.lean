import Derived.Test.YtlmompdfombgeaaGreatK18
import Derived.Test.YtlmompdfombgeaaGreatK21
import Derived.Test.YtlmompdfombgeaaGreatK08
namespace Go.Proofs.YtlmompdfombgeaaGreat
open Go.RowKit Go.MapKept

section
variable {w : World} {d : Nat} {t : Wt} {D : Dq} {n : Nat}

/-- What is reached from names, as files. -/
theorem reach_perm (h : DkT w d t D) (hnd : (D.files.map Fi.no).Nodup) {nv : List (ByteArray × Value)} {l : List (ByteArray × Int)} (hp : nv.Perm (encN l)) (hok : NOK D.files l) : (nv.map (lvOf t.kl)).Perm (encL t.pt (liveF l D.files)) := by
  refine (hp.map (lvOf t.kl)).trans ?_
  have e1 : (encN l).map (lvOf t.kl) = (l.map Prod.snd).map (fun m => (m, Value.pointer (some ⟨t.pt m, 0, none⟩))) := by
    unfold encN
    rw [List.map_map, List.map_map]
    refine List.map_congr_left fun y hy => ?_
    obtain ⟨f, hf, e⟩ := List.mem_map.1 (hok.l y hy)
    have h1 : lo y.2 t.kl = some (.pointer (some ⟨t.pt y.2, 0, none⟩)) := by
      rw [h.lkeys, ← e, ff_self hnd hf]
      rfl
    show (y.2, (t.kl.lookup y.2).getD (.pointer none)) = (y.2, _)
    rw [lo_lookup, h1]
    rfl
  have e2 : encL t.pt (liveF l D.files) = ((liveF l D.files).map Fi.no).map (fun m => (m, Value.pointer (some ⟨t.pt m, 0, none⟩))) := by
    unfold encL
    rw [List.map_map]
    rfl
  rw [e1, e2]
  exact (liveF_perm hok hnd).map _

theorem ints_of_perm {nv : List (ByteArray × Value)} {l : List (ByteArray × Int)} (hp : nv.Perm (encN l)) (hn : (l.map Prod.snd).Nodup) : (∀ x ∈ nv, x.2 = .int .i64 (iv x.2)) ∧ (nv.map (fun x => iv x.2)).Nodup := by
  refine ⟨fun x hx => ?_, ?_⟩
  · obtain ⟨y, _, e⟩ := List.mem_map.1 (hp.mem_iff.1 hx)
    subst e
    rfl
  · have e1 := hp.map (fun x : ByteArray × Value => iv x.2)
    rw [e1.nodup_iff]
    have e2 : (encN l).map (fun x : ByteArray × Value => iv x.2) = l.map Prod.snd := by
      unfold encN
      rw [List.map_map]
      rfl
    rw [e2]
    exact hn

theorem handP_name {nm : ByteArray} {ys : List Int} (h : nmOK nm = false) : handP D nm ys = (5, D) := by simp [handP, h]
theorem hand_head {w wb : World} {es : Array MapEntry} {c : Nat} (hg : (w.alloc (.map es c)).grownBy wb (some w.heap.size)) : Below w.heap.size w wb := by
  have K : Kept (fun k => k = w.heap.size) w wb := ((Kept.refl (fun k => k = w.heap.size) w).alloc _).grown hg (fun k _ e => by cases e; rfl)
  exact K.below (Nat.le_refl _) (fun k hk e => by omega)

theorem hand_upd {w5 w6 : World} {d N B : Nat} {t t5 : Wt} {D D5 : Dq} (h5 : DkT w5 d t5 D5) (hg : w5.grownBy w6 (some N)) (hf : ∀ k, Dft d t5 D5 k → Dft d t D k ∨ B ≤ k) (hlt : ∀ k, Dft d t D k → k < N) (hN : N < B) : DkT w6 d t5 D5 := by
  have k6 : Kept (fun k => k = N) w5 w6 := (Kept.refl (fun k => k = N) w5).grown hg (fun k _ e => by cases e; rfl)
  refine h5.kept k6 (fun k e e2 => ?_)
  rcases hf k e with e | e
  · have := hlt k e; omega
  · omega

set_option maxRecDepth 100000 in
set_option maxHeartbeats 3200000 in
theorem hand_dk (h : DkT w d t D) (hW : WD n D) (hn : n ≤ 100000) (nm : ByteArray) (hs : nm.size ≤ maxLen) (ao : Option Addr) (cap : Nat) (ys : List Int) (hsl : Sl w (.slice ao ys.length cap) ys) (hsd : ys ≠ [] → ∀ k, (Value.slice ao ys.length cap).ownBlock = some k → ¬ Dft d t D k) (hy : ys.length ≤ 1000000) :
    Calls Tryz.prog 27 #[.pointer (some ⟨d, 0, none⟩), .string nm, .slice ao ys.length cap] w fun x w' => x = .returned (.int .i64 (handP D nm ys).1) ∧ ∃ t', Goes d w t D w' t' (handP D nm ys).2 := by
  cases hok : nmOK nm
  · rw [handP_name hok]
    go_enter Tryz.func27, Tryz.ntmps27
    go_wp2_with (go_at_call 89; refine (isName_any nm _ hs).mono ?_; rw [hok]; rintro e w' ⟨rfl, rfl⟩)
    go_ret
    exact ⟨rfl, t, Goes.still h (Below.refl _ _)⟩
  obtain ⟨l, hl⟩ : ∃ l, l = delA nm D.names := ⟨_, rfl⟩
  have hNl : NOK D.files l := by rw [hl]; exact hW.nam.del nm
  have hpl : (delK nm t.kn).Perm (encN l) := by rw [hl, ← encN_del]; exact delK_perm nm h.pn
  obtain ⟨hi1, hi2⟩ := ints_of_perm hpl hNl.n
  have hdl := hp_lt h.disk
  obtain ⟨c0, c1, c2, c3, c4, c5, c6, c7, c8, c9, c10, c11⟩ := h.disk.cells
  have hroom := hW.room
  have hlim := hW.lim
  have hcnt := hW.cnt
  have hsub : (liveF l D.files).Sublist D.files := List.filter_sublist
  have hlen := hsub.length_le
  have hsum : ((liveF l D.files).map Fi.peak).sum ≤ (D.files.map Fi.peak).sum := sum_sub (hsub.map _)
  have hhld := hW.hld
  obtain ⟨m, hm⟩ : ∃ m, m = (liveF l D.files).length := ⟨_, rfl⟩
  obtain ⟨s, hs'⟩ : ∃ s, s = ((liveF l D.files).map Fi.peak).sum := ⟨_, rfl⟩
  have hs1 : s ≤ 4194304 := by omega
  have hm1 : m ≤ 512 := by omega
  have hMa : MG KS (w.alloc (.map t.eN t.cN)) w.heap.size t.kn t.eN t.cN := ⟨hp_new _ _, h.hN.hold, h.hN.nd, h.hN.kvs, h.hN.keys⟩
  have hLl : t.L < w.heap.size := hp_lt h.hL.blk
  have hmd := hW.made
  have hreach := reach_perm h hW.nd hpl hNl
  have hheld : ∀ (w2 : World) (b c : Nat) (kv : List (Int × Value)) (es : Array MapEntry), Below w.heap.size w w2 → MG KI w2 b kv es c → kv.Perm ((delK nm t.kn).map (lvOf t.kl)) → Calls Tryz.prog 74 #[.map (some b)] w2 fun x w' => x = .returned (.tuple #[.int .i64 (s : Nat), .int .i64 (m : Nat)]) ∧ Below w2.heap.size w2 w' := by
    intro w2 b c kv es hb hM hp
    rw [hs', hm]
    exact held_gen hM t.pt t.ft (liveF l D.files) (hp.trans hreach) (hW.nd.sublist (hsub.map _)) (fun f hf => (h.fil f (hsub.subset hf)).below hb) (by omega) (by omega)
  have hperm : (setK nm (.int .i64 (D.made + 1)) (delK nm t.kn)).Perm (encN (setA nm (D.made + 1) l)) := by
    refine (setK_perm nm _ _ (delK_keys nm h.hN.keys)).trans ?_
    unfold setA
    rw [show encN (delA nm l ++ [(nm, D.made + 1)]) = encN (delA nm l) ++ [(nm, .int .i64 (D.made + 1))] by simp [encN]]
    refine List.Perm.append_right _ ?_
    rw [← encN_del]
    exact delK_perm nm hpl
  have hnok : NOK (addD ys D).files (setA nm (D.made + 1) l) := by rw [hl]; exact hand_nok hW nm ys hok
  have hnd6 : ((addD ys D).files.map Fi.no).Nodup := by
    show ((D.files ++ [(⟨D.made + 1, ys, []⟩ : Fi)]).map Fi.no).Nodup
    rw [List.map_append, List.nodup_append]
    refine ⟨hW.nd, by simp, fun a ha b hb => ?_⟩
    obtain ⟨g, hg, rfl⟩ := List.mem_map.1 ha
    simp at hb
    have := (hW.rng g hg).2
    omega
  have hkb : ∀ b, t.k1 = .map (some b) ∨ t.k2 = .map (some b) → b < w.heap.size := fun b e => by
    rcases e with e | e
    · exact h.lt b (.inr (.inr (.inr (.inr (.inr (.inl e))))))
    · exact h.lt b (.inr (.inr (.inr (.inr (.inr (.inr (.inl e)))))))
  have HM := hid (And.intro hMa (And.intro h.hL (And.intro hi1 (And.intro hi2 c2))))
  have HX := hid (And.intro hheld (And.intro hperm (And.intro hnok (And.intro hnd6 (And.intro hkb (And.intro hsl hsd))))))
  have H := hid (And.intro h hW)
  have hP : handP D nm ys = if D.limit ≤ (m : Int) then (9, D) else if D.room - (s : Nat) < (ys.length : Int) then (8, D) else (0, settleD (setA nm (D.made + 1) l) (addD ys D)) := by
    unfold handP
    rw [if_neg (by rw [hok]; simp), ← hl, ← hm, ← hs']
  rw [hP]
  have hs9 : nm.size ≤ 281474976710656 := by have := nm_size hok; omega
  clear hP h hNl hpl hi1 hi2 hsl hsd hsub hlen hsum hhld hcnt hheld hperm hnok hnd6 hkb hMa hreach hl hm hs' hW c2 c3 c5 c6 c7 c8 c9 c10 c11
  by_cases e1 : D.limit ≤ (m : Int)
  · rw [if_pos e1]
    go_enter Tryz.func27, Tryz.ntmps27
    go_wp2_with (first
      | (go_at_call 89; refine (isName_any nm _ hs).mono ?_; rw [hok]; rintro e w' ⟨rfl, e1⟩; rw [e1]; clear e1 w')
      | (go_at_call 90; refine (mapsClone_any t.N t.eN t.cN _ H.out.1.hN.blk).mono ?_; rintro e wa ⟨rfl, e1⟩; rw [e1]; clear e1 wa)
      | (at_delete
         refine wpList_del_gen (K := KS) _ rfl _ _ 47 _ rfl rfl 9 3 Tryz.underlying47 Tryz.underlying9 w.heap.size t.kn t.eN t.cN HM.out.1 rfl nm rfl ?_
         intro es1 wb hM1 hg1 hz1
         have hbb := hand_head hg1.out
         have H1 := hid (And.intro hM1.out hbb)
         clear hM1 hg1 hz1 hbb)
      | (go_at_call 91
         refine (reached_any d t.L w.heap.size t.cL t.cN t.kl (delK nm t.kn) t.eL es1 wb ((H1.out.2.cell hdl).trans HM.out.2.2.2.2) (HM.out.2.1.below H1.out.2) H1.out.1 HM.out.2.2.1 HM.out.2.2.2.1).mono ?_
         rintro e w2 ⟨rfl, ⟨kv2, es2, cc2, hM2, hp2⟩, hb2⟩
         have H2 := hid (And.intro hM2 (And.intro hp2 (And.intro hb2 (H1.out.2.trans (hb2.mono H1.out.2.size)))))
         clear hM2 hp2 hb2)
      | (go_at_call 74
         refine (HX.out.1 _ _ _ _ _ H2.out.2.2.2 H2.out.1 H2.out.2.1).mono ?_
         rintro e w3 ⟨rfl, hb3⟩
         have hbw3 := H2.out.2.2.2.trans (hb3.mono H2.out.2.2.2.size)
         have a0 := (hbw3.cell hdl).trans c0
         have a1 := (hbw3.cell hdl).trans c1
         have H3 := hid (And.intro hb3 hbw3)
         clear hb3 hbw3))
    go_ret
    exact ⟨rfl, t, Goes.still H.out.1 H3.out.2⟩
  · rw [if_neg e1]
    by_cases e2 : D.room - (s : Nat) < (ys.length : Int)
    · rw [if_pos e2]
      go_enter Tryz.func27, Tryz.ntmps27
      go_wp2_with (first
        | (go_at_call 89; refine (isName_any nm _ hs).mono ?_; rw [hok]; rintro e w' ⟨rfl, e1⟩; rw [e1]; clear e1 w')
        | (go_at_call 90; refine (mapsClone_any t.N t.eN t.cN _ H.out.1.hN.blk).mono ?_; rintro e wa ⟨rfl, e1⟩; rw [e1]; clear e1 wa)
        | (at_delete
           refine wpList_del_gen (K := KS) _ rfl _ _ 47 _ rfl rfl 9 3 Tryz.underlying47 Tryz.underlying9 w.heap.size t.kn t.eN t.cN HM.out.1 rfl nm rfl ?_
           intro es1 wb hM1 hg1 hz1
           have hbb := hand_head hg1.out
           have H1 := hid (And.intro hM1.out hbb)
           clear hM1 hg1 hz1 hbb)
        | (go_at_call 91
           refine (reached_any d t.L w.heap.size t.cL t.cN t.kl (delK nm t.kn) t.eL es1 wb ((H1.out.2.cell hdl).trans HM.out.2.2.2.2) (HM.out.2.1.below H1.out.2) H1.out.1 HM.out.2.2.1 HM.out.2.2.2.1).mono ?_
           rintro e w2 ⟨rfl, ⟨kv2, es2, cc2, hM2, hp2⟩, hb2⟩
           have H2 := hid (And.intro hM2 (And.intro hp2 (And.intro hb2 (H1.out.2.trans (hb2.mono H1.out.2.size)))))
           clear hM2 hp2 hb2)
        | (go_at_call 74
           refine (HX.out.1 _ _ _ _ _ H2.out.2.2.2 H2.out.1 H2.out.2.1).mono ?_
           rintro e w3 ⟨rfl, hb3⟩
           have hbw3 := H2.out.2.2.2.trans (hb3.mono H2.out.2.2.2.size)
           have a0 := (hbw3.cell hdl).trans c0
           have a1 := (hbw3.cell hdl).trans c1
           have H3 := hid (And.intro hb3 hbw3)
           clear hb3 hbw3))
      go_ret
      exact ⟨rfl, t, Goes.still H.out.1 H3.out.2⟩
    · rw [if_neg e2]
      go_enter Tryz.func27, Tryz.ntmps27
      go_wp2_with (first
        | (go_at_call 89; refine (isName_any nm _ hs).mono ?_; rw [hok]; rintro e w' ⟨rfl, e1⟩; rw [e1]; clear e1 w')
        | (go_at_call 90; refine (mapsClone_any t.N t.eN t.cN _ H.out.1.hN.blk).mono ?_; rintro e wa ⟨rfl, e1⟩; rw [e1]; clear e1 wa)
        | (at_delete
           refine wpList_del_gen (K := KS) _ rfl _ _ 47 _ rfl rfl 9 3 Tryz.underlying47 Tryz.underlying9 w.heap.size t.kn t.eN t.cN HM.out.1 rfl nm rfl ?_
           intro es1 wb hM1 hg1 hz1
           have hbb := hand_head hg1.out
           have hz9 := (show w.heap.size < wb.heap.size from hp_lt hM1.out.blk)
           have H1 := hid (And.intro hM1.out hbb)
           clear hM1 hg1 hz1 hbb)
        | (go_at_call 91
           refine (reached_any d t.L w.heap.size t.cL t.cN t.kl (delK nm t.kn) t.eL es1 wb ((H1.out.2.cell hdl).trans HM.out.2.2.2.2) (HM.out.2.1.below H1.out.2) H1.out.1 HM.out.2.2.1 HM.out.2.2.2.1).mono ?_
           rintro e w2 ⟨rfl, ⟨kv2, es2, cc2, hM2, hp2⟩, hb2⟩
           have H2 := hid (And.intro hM2 (And.intro hp2 (And.intro hb2 (H1.out.2.trans (hb2.mono H1.out.2.size)))))
           clear hM2 hp2 hb2)
        | (go_at_call 74
           refine (HX.out.1 _ _ _ _ _ H2.out.2.2.2 H2.out.1 H2.out.2.1).mono ?_
           rintro e w3 ⟨rfl, hb3⟩
           have hbw3 := H2.out.2.2.2.trans (hb3.mono H2.out.2.2.2.size)
           have a0 := (hbw3.cell hdl).trans c0
           have a1 := (hbw3.cell hdl).trans c1
           have H3 := hid (And.intro (H2.out.2.2.1.trans (hb3.mono H2.out.2.2.1.size)) hbw3)
           clear hb3 hbw3)
        | (go_at_call 92
           refine (strClone_any nm _ hs9).mono ?_
           rintro e w4 ⟨rfl, hb4⟩
           have H4 := hid (And.intro (H3.out.1.trans (hb4.mono H3.out.1.size)) (H3.out.2.trans (hb4.mono H3.out.2.size)))
           clear hb4)
        | (go_at_call 79
           refine (add_dk (H.out.1.below H4.out.2) H.out.2 (by omega) _ ys (HX.out.2.2.2.2.2.1.below H4.out.2) (by omega) (fun hne k hk e => HX.out.2.2.2.2.2.2 hne k hk (.inl e))).mono ?_
           rintro e w5 ⟨rfl, t5, hd5, hk5, hf5, e51, e52⟩
           have hM5 := (show MG KS w5 w.heap.size (delK nm t.kn) es1 t.cN from (H1.out.1.below H4.out.1).kept hk5 (by omega))
           have H5 := hid (And.intro hd5 (And.intro hk5 (And.intro hf5 (And.intro e51 e52))))
           have HM5 := hid hM5
           clear hd5 hk5 hf5 e51 e52 hM5)
        | (at_mapUpdate
           refine wpList_upd_gen (K := KS) _ rfl _ _ _ 47 rfl 9 3 Tryz.underlying47 Tryz.underlying9 w.heap.size _ es1 t.cN HM5.out rfl nm _ rfl rfl ?_
           intro es6 cc6 w6 hM6 hg6 hz6
           have hd6 := hand_upd H5.out.1 hg6.out H5.out.2.2.1 (fun k e => H.out.1.lt k e) (by have := H4.out.1.size; omega)
           have H6 := hid (And.intro hM6.out (And.intro hg6.out hd6))
           clear hM6 hg6 hz6 hd6)
        | (go_at_call 86
           refine (settle_dk H6.out.2.2 HX.out.2.2.2.1 w.heap.size cc6 _ es6 H6.out.1 (setA nm (D.made + 1) l) HX.out.2.1 HX.out.2.2.1 (by
             rw [H5.out.2.2.2.1, H5.out.2.2.2.2]
             intro b e
             have := HX.out.2.2.2.2.1 b e
             omega)).mono ?_
           rintro e w7 ⟨rfl, t7, hd7, hk7, hf7, -⟩
           have H7 := hid (And.intro hd7 (And.intro hk7 hf7))
           clear hd7 hk7 hf7))
      go_ret
      obtain ⟨hd7, hk7, hf7⟩ := H7.out
      obtain ⟨hd5, hk5, hf5, -⟩ := H5.out
      have z4 := H4.out.2.size
      have k6 : Kept (fun k => k = w.heap.size) w5 w6 := (Kept.refl (fun k => k = w.heap.size) w5).grown H6.out.2.1 (fun k _ e => by cases e; rfl)
      have z5 := hk5.size
      have z6 := k6.size
      have zb := H4.out.1.size
      refine ⟨rfl, t7, hd7, ?_, ?_⟩
      · have kA : Kept (Dft d t D) w w4 := (Kept.ofBelow H4.out.2).mono (fun _ _ e => e.elim)
        refine ((kA.trans hk5 ?_).trans k6 ?_).trans hk7 ?_
        · rintro i _ (e | e)
          · exact .inl e
          · exact .inr (.inl e)
        · intro i hi e; omega
        · intro i _ e; exact .inl e
      · intro k e
        rcases hf7 k e with e | e | e
        · rcases hf5 k e with e | e
          · exact .inl e
          · exact .inr (by omega)
        · exact .inr (by omega)
        · exact .inr (by omega)

end
end Go.Proofs.YtlmompdfombgeaaGreat

namespace Go.Proofs.YtlmompdfombgeaaGreat
open Go.RowKit Go.MapKept

theorem bsOf_data (s : ByteArray) : bsOf s.data.toList = s := by
  cases s
  simp [bsOf]

theorem skN_perm (l : List (ByteArray × Int)) : (skN l).Perm (l.map Prod.fst) := by
  unfold skN sk
  refine ((List.mergeSort_perm _ _).map bsOf).trans ?_
  unfold encN
  rw [List.map_map, List.map_map]
  exact List.Perm.of_eq (List.map_congr_left fun x _ => bsOf_data x.1)

theorem skN_len (l : List (ByteArray × Int)) : (skN l).length = l.length := by rw [(skN_perm l).length_eq, List.length_map]

theorem toldN_len (l : List (ByteArray × Int)) (cont : Int → List Int) : (toldN l cont).length = l.length := by simp [toldN, skN_len]

theorem sumN_perm {l l' : List Nat} (h : l.Perm l') : l.sum = l'.sum := by
  induction h with
  | nil => rfl
  | cons _ _ ih => simp [ih]
  | swap _ _ _ => simp; omega
  | trans _ _ ih1 ih2 => exact ih1.trans ih2

theorem toldN_sz (l : List (ByteArray × Int)) (cont : Int → List Int) (hk : (l.map Prod.fst).Nodup) : szF (toldN l cont) = (l.map fun x => (cont x.2).length).sum := by
  unfold szF toldN
  rw [List.map_map]
  have h1 := (skN_perm l).map (fun nm : ByteArray => (cont ((lo nm l).getD 0)).length)
  have e : ((fun x : ByteArray × List Int => x.2.length) ∘ fun nm => (nm, cont ((lo nm l).getD 0))) = fun nm : ByteArray => (cont ((lo nm l).getD 0)).length := rfl
  rw [e, sumN_perm h1, List.map_map]
  congr 1
  refine List.map_congr_left fun x hx => ?_
  show (cont ((lo x.1 l).getD 0)).length = _
  rw [lo_of_mem hk hx]
  rfl

/-- The names rise. -/
theorem toldN_sorted (l : List (ByteArray × Int)) (cont : Int → List Int) (hk : (l.map Prod.fst).Nodup) : ∀ i x y, (toldN l cont)[i]? = some x → (toldN l cont)[i + 1]? = some y → x.1.toList < y.1.toList := by
  intro i x y hx hy
  unfold toldN at hx hy
  rw [List.getElem?_map] at hx hy
  have hnd : (skN l).Nodup := (skN_perm l).nodup_iff.2 hk
  unfold skN at hx hy hnd
  rw [List.getElem?_map] at hx hy
  have ht : ∀ a b c : List UInt8, decide (a ≤ b) = true → decide (b ≤ c) = true → decide (a ≤ c) = true := fun a b c h1 h2 => by
    simp at h1 h2 ⊢
    exact List.le_trans h1 h2
  have hto : ∀ a b : List UInt8, (decide (a ≤ b) || decide (b ≤ a)) = true := fun a b => by
    simp
    exact List.le_total a b
  have hp : (sk (encN l)).Pairwise (fun x y => decide (x ≤ y) = true) := List.pairwise_mergeSort ht hto _
  cases h1 : (sk (encN l))[i]? with
  | none => rw [h1] at hx; cases hx
  | some s =>
    cases h2 : (sk (encN l))[i + 1]? with
    | none => rw [h2] at hy; cases hy
    | some s' =>
      rw [h1] at hx
      rw [h2] at hy
      injection hx with hx
      injection hy with hy
      subst hx hy
      obtain ⟨i1, e1⟩ := List.getElem?_eq_some_iff.1 h1
      obtain ⟨i2, e2⟩ := List.getElem?_eq_some_iff.1 h2
      have hle := List.pairwise_iff_getElem.1 hp i (i + 1) i1 i2 (Nat.lt_succ_self i)
      rw [e1, e2] at hle
      have hle : s ≤ s' := by simpa using hle
      have hne : s ≠ s' := fun e => by
        have h3 : ((sk (encN l)).map bsOf)[i]? = ((sk (encN l)).map bsOf)[i + 1]? := by rw [List.getElem?_map, List.getElem?_map, h1, h2, e]
        have := (List.getElem?_inj (by rw [List.length_map]; exact i1) hnd).1 h3
        omega
      show (bsOf s).toList < (bsOf s').toList
      rw [Lib.toList_data, Lib.toList_data]
      show s < s'
      rcases List.le_iff_lt_or_eq.1 hle with h | h
      · exact h
      · exact absurd h hne

section
variable {D : Dq} {n : Nat}

theorem told_live (h : WD n D) {l : List (ByteArray × Int)} (hok : NOK D.files l) (cont : Int → List Int) : szF (toldN l cont) = ((liveF l D.files).map fun f => (cont f.no).length).sum := by
  rw [toldN_sz l cont hok.k]
  have h1 := (liveF_perm hok h.nd).map (fun m : Int => (cont m).length)
  rw [List.map_map, List.map_map] at h1
  exact sumN_perm h1

theorem sum_le_map {α : Type} (f g : α → Nat) : ∀ (l : List α), (∀ x ∈ l, f x ≤ g x) → (l.map f).sum ≤ (l.map g).sum
  | [], _ => Nat.le_refl _
  | x :: l, h => by
    rw [List.map_cons, List.sum_cons, List.map_cons, List.sum_cons]
    have h1 := h x (List.mem_cons_self ..)
    have h2 := sum_le_map f g l (fun y hy => h y (List.mem_cons_of_mem _ hy))
    omega

theorem rowN_self (h : WD n D) {f : Fi} (hf : f ∈ D.files) : rowN D f.no = f.row.1 := by simp [rowN, ff_self h.nd hf]
theorem safN_self (h : WD n D) {f : Fi} (hf : f ∈ D.files) : safN D f.no = f.safe := by simp [safN, ff_self h.nd hf]

theorem live_le (l : List (ByteArray × Int)) : ((liveF l D.files).map Fi.peak).sum ≤ heldD D := sum_sub ((List.filter_sublist).map _)

theorem files_sz (h : WD n D) : szF (filesD D) ≤ heldD D := by
  unfold filesD
  rw [told_live h h.nam]
  refine Nat.le_trans (sum_le_map _ Fi.peak _ fun f hf => ?_) (live_le _)
  rw [rowN_self h (mem_liveF.1 hf).1]
  exact row_le_peak f.safe f.cs

theorem safe_sz (h : WD n D) : szF (safeD D) ≤ heldD D := by
  unfold safeD
  rw [told_live h h.safe0]
  refine Nat.le_trans (sum_le_map _ Fi.peak _ fun f hf => ?_) (live_le _)
  rw [safN_self h (mem_liveF.1 hf).1]
  exact safe_le_peak f.safe f.cs

/-- Nothing is pending, and every file has a name. -/
structure Calm (D : Dq) : Prop where
  t : D.turns = []
  c : ∀ f ∈ D.files, f.cs = []
  l : liveF D.safeN D.files = D.files

theorem Calm.names (h : Calm D) : D.names = D.safeN := by unfold Dq.names; rw [h.t]; rfl

theorem Calm.row (h : Calm D) (m : Int) : rowN D m = safN D m := by
  unfold rowN safN
  cases e : ff m D.files with
  | none => rfl
  | some f =>
    have := h.c f (ff_mem e).1
    simp only [Option.map_some, Option.getD_some]
    unfold Fi.row
    rw [this]
    rfl

theorem Calm.same (h : Calm D) : filesD D = safeD D := by
  unfold filesD safeD
  rw [h.names]
  have : rowN D = safN D := funext h.row
  rw [this]

theorem Calm.held (h : Calm D) (hW : WD n D) : heldD D = szF (filesD D) := by
  rw [h.same]
  unfold safeD
  rw [told_live hW hW.safe0, h.l]
  unfold heldD
  congr 1
  refine List.map_congr_left fun f hf => ?_
  rw [safN_self hW hf]
  unfold Fi.peak
  rw [h.c f hf]
  exact peakC_nil _

theorem Calm.cnt (h : Calm D) (hW : WD n D) : D.files.length = (filesD D).length := by
  rw [h.same]
  unfold safeD
  rw [toldN_len]
  have := (liveF_perm hW.safe0 hW.nd).length_eq
  rw [List.length_map, List.length_map, h.l] at this
  exact this.symm

end

/-- A new disk. -/
def newD (room limit : Int) : Dq := ⟨room, limit, 0, [], [], [], false, 0, [], 0, []⟩

theorem newD_WD (room limit : Int) (h0 : 0 ≤ room) (h1 : room ≤ 4194304) (h2 : 0 ≤ limit) (h3 : limit ≤ 512) : WD 0 (newD room limit) := by
  refine ⟨⟨h0, h1⟩, ⟨h2, h3⟩, ⟨Int.le_refl _, Int.le_refl _⟩, List.Pairwise.nil, fun f hf => (by cases hf), (show ((0 : Nat) : Int) ≤ limit by omega), (show ((0 : Nat) : Int) ≤ room by omega), ?_, Nat.le_refl _, fun f hf => (by cases hf), ⟨Int.le_refl _, Int.le_refl _⟩, ⟨Int.le_refl _, Int.le_refl _⟩⟩
  intro k
  have e : (newD room limit).namesAt k = [] := by simp [Dq.namesAt, newD]
  rw [e]
  exact ⟨List.nodup_nil, List.nodup_nil, fun x hx => (by cases hx), fun x hx => (by cases hx)⟩

theorem zero_dk {B : Nat} {w : World} {d L N F : Nat} {room limit : Int} {cL cN cF : Nat} (h : Zero B w d L N F room limit 0 0 cL cN cF) : ∃ t, DkT w d t (newD room limit) ∧ ∀ k, Dft d t (newD room limit) k → B ≤ k := by
  refine ⟨⟨L, N, F, .slice none 0 0, .map none, .map none, [], #[], cL, [], #[], cN, [], #[], cF, fun _ _ => False, fun _ => 0⟩, ⟨h.disk, ⟨h.hL, by simp, by simp, rfl, by simp⟩, ⟨h.hN, by simp, by simp, rfl, by simp⟩, ⟨h.hF, by simp, by simp, rfl, by simp⟩, List.Perm.refl _, List.Perm.refl _, List.Perm.refl _, h.ne.1, h.ne.2.1, h.ne.2.2, fun f hf => (by cases hf), fun f hf => (by cases hf), owns_nil _ _ _ _, .inl ⟨rfl, rfl⟩, .inl ⟨rfl, rfl⟩, fun b e => by rcases e with e | e <;> cases e⟩, ?_⟩
  rintro k (e | e | e | e | e | e | e | ⟨f, hf, e⟩)
  · rw [e]; exact h.ge.1
  · rw [e]; exact h.ge.2.1
  · rw [e]; exact h.ge.2.2.1
  · rw [e]; exact h.ge.2.2.2
  · simp [Value.ownBlock] at e
  · cases e
  · cases e
  · cases hf

end Go.Proofs.YtlmompdfombgeaaGreat

namespace Go.Proofs.YtlmompdfombgeaaGreat
open Go.RowKit Go.MapKept

/-- Names that rise. -/
def Asc (l : List (ByteArray × Int)) : Prop := l.Pairwise fun a b => a.1.toList < b.1.toList

/-- A name put in its place. -/
def insA (k : ByteArray) (v : Int) : List (ByteArray × Int) → List (ByteArray × Int)
  | [] => [(k, v)]
  | x :: l => if k.toList < x.1.toList then (k, v) :: x :: l else x :: insA k v l

theorem insA_perm (k : ByteArray) (v : Int) : ∀ l, (insA k v l).Perm ((k, v) :: l)
  | [] => .refl _
  | x :: l => by
    unfold insA
    split
    · exact .refl _
    · exact ((insA_perm k v l).cons x).trans (.swap _ _ _)

theorem insA_asc {k : ByteArray} {v : Int} : ∀ {l : List (ByteArray × Int)}, Asc l → (∀ x ∈ l, x.1 ≠ k) → Asc (insA k v l)
  | [], _, _ => List.pairwise_singleton _ _
  | x :: l, h, hk => by
    unfold Asc at h
    rw [List.pairwise_cons] at h
    unfold insA Asc
    split
    · rename_i hlt
      rw [List.pairwise_cons, List.pairwise_cons]
      refine ⟨fun y hy => ?_, h⟩
      rcases List.mem_cons.1 hy with rfl | hy
      · exact hlt
      · exact List.lt_trans hlt (h.1 y hy)
    · rename_i hlt
      rw [List.pairwise_cons]
      refine ⟨fun y hy => ?_, insA_asc h.2 (fun y hy => hk y (List.mem_cons_of_mem _ hy))⟩
      rcases List.mem_cons.1 ((insA_perm k v l).mem_iff.1 hy) with rfl | hy
      · have hle : x.1.toList ≤ k.toList := List.not_lt.1 hlt
        rcases List.le_iff_lt_or_eq.1 hle with h2 | h2
        · exact h2
        · exact absurd (toList_inj h2) (hk x (List.mem_cons_self ..))
      · exact h.1 y hy

theorem delA_asc {k : ByteArray} {l : List (ByteArray × Int)} (h : Asc l) : Asc (delA k l) := List.Pairwise.sublist List.filter_sublist h

theorem delA_perm {k : ByteArray} {l l' : List (ByteArray × Int)} (h : l.Perm l') : (delA k l).Perm (delA k l') := h.filter _

/-- with of the document. -/
def wthA (k : ByteArray) (v : Int) (l : List (ByteArray × Int)) : List (ByteArray × Int) := insA k v (delA k l)

theorem wthA_asc {k : ByteArray} {v : Int} {l : List (ByteArray × Int)} (h : Asc l) : Asc (wthA k v l) := insA_asc (delA_asc h) fun x hx => by
  have := (List.mem_filter.1 hx).2
  simpa using this

theorem wthA_perm {k : ByteArray} {v : Int} {l l' : List (ByteArray × Int)} (h : l.Perm l') : (wthA k v l).Perm (setA k v l') := by
  refine (insA_perm k v _).trans ?_
  refine ((delA_perm h).cons _).trans ?_
  unfold setA
  exact (List.perm_append_singleton _ _).symm

/-- A change done, in their order. -/
def rdo (l : List (ByteArray × Int)) (x : Nmg) : List (ByteArray × Int) := if x.2.1.toList.isEmpty then delA x.1 l else wthA x.2.1 x.2.2 (delA x.1 l)

theorem rdo_asc {l : List (ByteArray × Int)} (h : Asc l) (x : Nmg) : Asc (rdo l x) := by
  unfold rdo
  split
  · exact delA_asc h
  · exact wthA_asc (delA_asc h)

theorem rdo_perm {l l' : List (ByteArray × Int)} (h : l.Perm l') (x : Nmg) : (rdo l x).Perm (doT l' x) := by
  unfold rdo doT
  split
  · exact delA_perm h
  · exact wthA_perm (delA_perm h)

theorem rfold_asc : ∀ (ts : List Nmg) {l : List (ByteArray × Int)}, Asc l → Asc (ts.foldl rdo l)
  | [], _, h => h
  | x :: ts, _, h => rfold_asc ts (rdo_asc h x)

theorem rfold_perm : ∀ (ts : List Nmg) {l l' : List (ByteArray × Int)}, l.Perm l' → (ts.foldl rdo l).Perm (ts.foldl doT l')
  | [], _, _, h => h
  | x :: ts, _, _, h => rfold_perm ts (rdo_perm h x)

/-- The names that the document has, with the first n changes done. -/
def rnm (sn : List (ByteArray × Int)) (ts : List Nmg) (n : Nat) : List (ByteArray × Int) := (ts.take n).foldl rdo sn

theorem rnm_succ (sn : List (ByteArray × Int)) (ts : List Nmg) (n : Nat) (x : Nmg) (h : ts[n]? = some x) : rnm sn ts (n + 1) = rdo (rnm sn ts n) x := by
  unfold rnm
  rw [List.take_add_one, h]
  simp [List.foldl_append]

/-- Sorted names of a list. -/
structure Nms (sn l : List (ByteArray × Int)) : Prop where
  p : sn.Perm l
  a : Asc sn

theorem Nms.at {D : Dq} {sn : List (ByteArray × Int)} (h : Nms sn D.safeN) (n : Nat) : Nms (rnm sn D.turns n) (D.namesAt n) := ⟨rfold_perm _ h.p, rfold_asc _ h.a⟩

theorem Nms.now {D : Dq} {sn : List (ByteArray × Int)} (h : Nms sn D.safeN) : Nms (rnm sn D.turns D.turns.length) D.names := by
  have := h.at D.turns.length
  rwa [← names_at] at this

theorem Nms.lo {sn l : List (ByteArray × Int)} (h : Nms sn l) (hk : (l.map Prod.fst).Nodup) (nm : ByteArray) : Go.Proofs.YtlmompdfombgeaaGreat.lo nm sn = Go.Proofs.YtlmompdfombgeaaGreat.lo nm l :=
  lo_perm h.p ((h.p.map Prod.fst).nodup_iff.2 hk)

theorem asc_keys {sn : List (ByteArray × Int)} (h : Asc sn) : (sn.map Prod.fst).Pairwise (fun a b => a.toList < b.toList) := by
  rw [List.pairwise_map]
  exact h

theorem skN_pair (l : List (ByteArray × Int)) (hk : (l.map Prod.fst).Nodup) : (skN l).Pairwise (fun a b => a.toList < b.toList) := by
  have h1 : ∀ i x y, (skN l)[i]? = some x → (skN l)[i + 1]? = some y → x.toList < y.toList := fun i x y hx hy => by
    have h := toldN_sorted l (fun _ => []) hk i (x, []) (y, []) (by unfold toldN; rw [List.getElem?_map, hx]; rfl) (by unfold toldN; rw [List.getElem?_map, hy]; rfl)
    exact h
  rw [List.pairwise_iff_getElem]
  intro i j hi hj hij
  obtain ⟨d, rfl⟩ : ∃ d, j = i + 1 + d := ⟨j - (i + 1), by omega⟩
  induction d with
  | zero => exact h1 i _ _ (List.getElem?_eq_getElem hi) (List.getElem?_eq_getElem hj)
  | succ d ih =>
    have h2 := ih (by omega) (by omega)
    have h3 := h1 (i + 1 + d) _ _ (List.getElem?_eq_getElem (by omega)) (List.getElem?_eq_getElem (show i + 1 + d + 1 < (skN l).length by omega))
    exact List.lt_trans h2 h3

theorem Nms.keys {sn l : List (ByteArray × Int)} (h : Nms sn l) (hk : (l.map Prod.fst).Nodup) : skN l = sn.map Prod.fst := by
  refine List.Perm.eq_of_pairwise (le := fun a b : ByteArray => a.toList < b.toList) (fun a b _ _ h1 h2 => absurd (List.lt_trans h1 h2) (List.lt_irrefl _)) (skN_pair l hk) (asc_keys h.a) ?_
  exact (skN_perm l).trans (h.p.map Prod.fst).symm

/-- What is told of names, in the document's order. -/
theorem Nms.told {sn l : List (ByteArray × Int)} (h : Nms sn l) (hk : (l.map Prod.fst).Nodup) (cont : Int → List Int) : toldN l cont = sn.map fun x => (x.1, cont x.2) := by
  unfold toldN
  rw [h.keys hk, List.map_map]
  refine List.map_congr_left fun x hx => ?_
  show (x.1, cont ((Go.Proofs.YtlmompdfombgeaaGreat.lo x.1 l).getD 0)) = _
  rw [← h.lo hk, lo_of_mem ((h.p.map Prod.fst).nodup_iff.2 hk) hx]
  rfl

/-- Changes as they come: none is of no name; renames bear the file that the name had. -/
def TOK (D : Dq) : Prop := ∀ i f t n, D.turns[i]? = some (f, t, n) → (f.toList.isEmpty = true → t.toList.isEmpty = false) ∧ (f.toList.isEmpty = false → t.toList.isEmpty = false → lo f (D.namesAt i) = some n)

theorem TOK.nil {D : Dq} (h : D.turns = []) : TOK D := fun i f t n hx => by rw [h] at hx; simp at hx

theorem TOK.same {D D' : Dq} (h : TOK D) (h1 : D'.turns = D.turns) (h2 : D'.safeN = D.safeN) : TOK D' := fun i f t n hx => by
  have := h i f t n (by rw [← h1]; exact hx)
  unfold Dq.namesAt at this ⊢
  rw [h1, h2]
  exact this

theorem TOK.snoc {D D' : Dq} (h : TOK D) {x : Nmg} (h1 : D'.turns = D.turns ++ [x]) (h2 : D'.safeN = D.safeN) (hy : x.1.toList.isEmpty = true → x.2.1.toList.isEmpty = false) (hx : x.1.toList.isEmpty = false → x.2.1.toList.isEmpty = false → lo x.1 D.names = some x.2.2) : TOK D' := by
  intro i f t n hi
  have hnm : ∀ j, j ≤ D.turns.length → D'.namesAt j = D.namesAt j := fun j hj => by
    unfold Dq.namesAt
    rw [h1, h2, List.take_append_of_le_length hj]
  rw [h1] at hi
  by_cases hl : i < D.turns.length
  · rw [List.getElem?_append_left hl] at hi
    rw [hnm i (by omega)]
    exact h i f t n hi
  · have hi2 : i = D.turns.length := by
      have := (List.getElem?_eq_some_iff.1 hi).1
      rw [List.length_append] at this
      simp at this
      omega
    subst hi2
    rw [List.getElem?_append_right (Nat.le_refl _)] at hi
    simp at hi
    subst hi
    rw [hnm _ (Nat.le_refl _), ← names_at]
    exact ⟨hy, hx⟩

end Go.Proofs.YtlmompdfombgeaaGreat
