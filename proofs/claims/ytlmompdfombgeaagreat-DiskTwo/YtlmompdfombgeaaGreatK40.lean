import Derived.Test.YtlmompdfombgeaaGreatK31
import Derived.Test.YtlmompdfombgeaaGreatK37
import Derived.Test.YtlmompdfombgeaaGreatK27
import Derived.Test.YtlmompdfombgeaaGreatK23
import Derived.Test.YtlmompdfombgeaaGreatK22
import Derived.Test.YtlmompdfombgeaaGreatK39
namespace Go.Proofs.YtlmompdfombgeaaGreat
open Go.RowKit Go.MapKept

section
variable {w : World} {d : Nat} {t : Wt} {D : Dq} {n : Nat}

set_option maxRecDepth 100000 in
set_option maxHeartbeats 800000 in
theorem plist_off (h : DkT w d t D) (ho : D.off = true) : Calls Tryz.prog 16 #[.pointer (some ⟨d, 0, none⟩)] w fun x w' => x = .returned (.tuple #[.slice none 0 0, .int .i64 11]) ∧ Below w.heap.size w w' := by
  have hf := find0_dk h
  rw [show pre0 D = 11 by simp [pre0, ho]] at hf
  have HF := hid hf
  clear hf h
  go_enter Tryz.func16, Tryz.ntmps16
  go_wp2_with (
    go_at_call 69
    refine HF.out.mono ?_
    rintro e w1 ⟨rfl, hb⟩
    have HB := hid hb
    clear hb)
  go_ret2
  exact ⟨rfl, HB.out⟩

set_option maxRecDepth 100000 in
set_option maxHeartbeats 800000 in
theorem plist_on (h : DkT w d t D) (hW : WD n D) (ho : D.off = false) : Calls Tryz.prog 16 #[.pointer (some ⟨d, 0, none⟩)] w fun x w' => ∃ v, x = .returned (.tuple #[v, .int .i64 0]) ∧ w'.ownsRow w.heap.size 9 1 v D.names.length ((skN D.names).map Value.string) ∧ Below w.heap.size w w' := by
  obtain ⟨c0, c1, c2, c3, c4, c5, c6, c7, c8, c9, c10, c11⟩ := h.disk.cells
  have hdl := hp_lt h.disk
  have hf := find0_dk h
  rw [show pre0 D = 0 by simp [pre0, ho]] at hf
  have hlen : t.kn.length = D.names.length := by rw [h.pn.length_eq]; simp [encN]
  have hnl := hW.nlen hW.nam
  have h3 := hW.cnt
  have h4 := hW.lim
  have hso : ∀ W, Below w.heap.size w W → Calls Tryz.prog 72 #[.map (some t.N)] W fun e w' => ∃ v, e = .returned v ∧ w'.ownsRow W.heap.size 9 1 v D.names.length ((skN D.names).map Value.string) ∧ Below W.heap.size W w' := fun W hb => by
    refine (sorted_gen (h.hN.below hb) (fun x hx => ?_) (by omega)).mono ?_
    · obtain ⟨y, hy, e⟩ := List.mem_map.1 (h.pn.mem_iff.1 hx)
      have := nm_size (hW.nam.ok y hy)
      rw [← e]
      unfold maxLen
      dsimp only
      omega
    · rintro x w' ⟨v, rfl, hrow, _, hb'⟩
      refine ⟨v, rfl, ?_, hb'⟩
      rw [hlen, sk_perm h.pn] at hrow
      unfold skN
      rw [List.map_map]
      exact hrow
  have HF := hid hf
  have HS := hid hso
  clear hf hso h hW c0 c1 c2 c3 c5 c6 c7 c8 c9 c10 c11
  go_enter Tryz.func16, Tryz.ntmps16
  go_wp2_with (first
    | (go_at_call 69
       refine HF.out.mono ?_
       rintro e w1 ⟨rfl, hb⟩
       have a4 := (hb.cell hdl).trans c4
       have HB := hid hb
       clear hb)
    | (go_at_call 72
       refine (HS.out _ HB.out).mono ?_
       rintro e w2 ⟨v, rfl, hrow, hb2⟩
       have H2 := hid (And.intro hrow hb2)
       clear hrow hb2))
  go_ret2
  exact ⟨v, rfl, owns_base H2.out.1 HB.out.size, HB.out.trans (H2.out.2.mono HB.out.size)⟩

end

section
variable {w w' : World} {r : Nat} {R : Rt} {D : Dq} {n : Nat}

set_option maxRecDepth 100000 in
set_option maxHeartbeats 800000 in
theorem rlist_off (h : RdT w r R D) (ho : D.off = true) : Calls Tryz.prog 41 #[.pointer (some ⟨r, 0, none⟩)] w fun x w' => x = .returned (.tuple #[.slice none 0 0, .int .i64 11]) ∧ Below w.heap.size w w' := by
  obtain ⟨c0, c1, c2, c3, c4, c5, c6, c7, c8, c9, c10⟩ := h.cells
  rw [ho] at c10
  clear h c0 c1 c2 c3 c4 c5 c6 c7 c8 c9
  go_enter Tryz.func41, Tryz.ntmps41
  go_wp2
  go_ret2
  exact ⟨rfl, Below.refl _ _⟩

theorem nok_ff {fs : List Fi} {l sn : List (ByteArray × Int)} (h : NOK fs l) (hp : sn.Perm l) : ∀ x ∈ sn, ∃ f, ff x.2 fs = some f := fun x hx => ff_some (h.l x (hp.mem_iff.1 hx))

set_option maxRecDepth 100000 in
set_option maxHeartbeats 1600000 in
theorem rFiles_r (h : RdT w r R D) (hW : WD n D) (hn : n ≤ 100000) (hT : TOK D) : Calls Tryz.prog 46 #[.pointer (some ⟨r, 0, none⟩)] w fun x w' => ∃ v, x = .returned v ∧ FbL w' v (filesD D) ∧ Below w.heap.size w w' := by
  have HN := hid (now_r h hW hn hT)
  have hns := h.ns.now (D := D)
  have hnl : (rnm R.sn D.turns D.turns.length).length ≤ 512 := h.nlen hW _
  have hfd : filesD D = (rnm R.sn D.turns D.turns.length).map fun x => (x.1, conN D false x.2) := by
    unfold filesD
    rw [hns.told hW.nam.k]
    rfl
  rw [hfd]
  have HF := hid (fun (W : World) (v : Value) (hb : Below w.heap.size w W) (hv : Nl W v (rnm R.sn D.turns D.turns.length)) => files_r (h.below hb) (hW.fok hn) _ v hv (by omega) false (nok_ff hW.nam hns.p))
  clear h hfd hns
  go_enter Tryz.func46, Tryz.ntmps46
  go_wp2_with (first
    | (go_at_call 100
       refine HN.out.mono ?_
       rintro e w2 ⟨v2, rfl, hl2, -, hb2⟩
       have H2 := hid (And.intro hl2 hb2)
       clear hl2 hb2)
    | (go_at_call 102
       refine (HF.out _ _ H2.out.2 H2.out.1).mono ?_
       rintro e w3 ⟨v3, vs, rfl, hf3, hb3⟩
       have H3 := hid (And.intro hf3.fbl (bel_on H2.out.2 hb3))
       clear hf3 hb3))
  go_ret
  exact ⟨_, rfl, H3.out⟩

set_option maxRecDepth 100000 in
set_option maxHeartbeats 1600000 in
theorem rSafe_r (h : RdT w r R D) (hW : WD n D) (hn : n ≤ 100000) : Calls Tryz.prog 47 #[.pointer (some ⟨r, 0, none⟩)] w fun x w' => ∃ v, x = .returned v ∧ FbL w' v (safeD D) ∧ Below w.heap.size w w' := by
  have hs0 : NOK D.files D.safeN := hW.saf 0
  have hnl : R.sn.length ≤ 512 := h.nlen hW 0
  have hfd : safeD D = R.sn.map fun x => (x.1, conN D true x.2) := by
    unfold safeD
    rw [h.ns.told hs0.k]
    rfl
  rw [hfd]
  obtain ⟨-, -, -, -, c4, -⟩ := h.cells
  have HF := hid (files_r h (hW.fok hn) R.sn R.nv h.nms (by omega) true (nok_ff hs0 h.ns.p))
  clear h hfd
  go_enter Tryz.func47, Tryz.ntmps47
  go_wp2_with (
    go_at_call 102
    refine HF.out.mono ?_
    rintro e w3 ⟨v3, vs, rfl, hf3, hb3⟩
    have H3 := hid (And.intro hf3.fbl hb3)
    clear hf3 hb3)
  go_ret
  exact ⟨_, rfl, H3.out⟩

end

end Go.Proofs.YtlmompdfombgeaaGreat

namespace Go.Proofs.YtlmompdfombgeaaGreat
open Go.RowKit Go.MapKept

theorem DN.bel {w w' : World} (h : DN w w') : Below w.heap.size w w' := by
  obtain ⟨m, rfl⟩ := h
  exact below_drewN (Below.refl _ _) m

theorem ln_of_owns {w : World} {B : Nat} {v : Value} {n : Nat} {ls : List Int} (h : w.ownsRow B 3 1 v n (ls.map (Value.int .i64))) (hn : n = ls.length) : Ln w v ls := by
  subst hn
  have e : ∀ ls : List Int, ls.map (Value.int .i64) = ls.flatMap fun x => [.int .i64 x] := fun ls => by
    induction ls with
    | nil => rfl
    | cons a l ih => rw [List.map_cons, List.flatMap_cons, ih]; rfl
  unfold Ln
  rw [e] at h
  refine rf_of_owns h ?_
  intro u hu
  obtain ⟨x, _, hx⟩ := List.mem_flatMap.1 hu
  simp at hx
  subst hx
  rfl

section
variable {w : World} {d r : Nat} {t : Wt} {R : Rt} {D : Dq} {n : Nat}

set_option maxRecDepth 100000 in
set_option maxHeartbeats 6400000 in
theorem alike_off (h : Pr w d r t R D D) (hW : WD n D) (hn : n ≤ 90000) (hT : TOK D) (ho : D.off = true) : Calls Tryz.prog 11 #[.pointer (some ⟨d, 0, none⟩), .pointer (some ⟨r, 0, none⟩)] w fun x w' => x = .returned (.bool true) ∧ Below w.heap.size w w' := by
  have H := hid h
  have HW := hid (And.intro hW (And.intro hT ho))
  have hfl : D.files.length ≤ 1000 := by have h1 := hW.cnt; have h2 := hW.lim; omega
  have htl := hW.tur
  have hnm : (skN D.names).length ≤ 1000 := by
    have h1 := (skN_perm D.names).length_eq
    have h2 := hW.nlen hW.nam
    have h3 := hW.cnt
    have h4 := hW.lim
    rw [List.length_map] at h1
    omega
  have HSK := hid (show D.names.length = (skN D.names).length by have h1 := (skN_perm D.names).length_eq; rw [List.length_map] at h1; exact h1.symm)
  have hsz : heldD D ≤ 4194304 := by have h1 : ((heldD D : Nat) : Int) ≤ D.room := hW.hld; have h2 := hW.room; omega
  have HSZ := hid (And.intro (files_sz hW) (And.intro (safe_sz hW) hsz))
  have hst := hW.st
  have hrd := hW.rd
  have HPL := hid (show (pendD D).length = D.files.length by simp [pendD])
  have HFL := hid (show (filesD D).length ≤ 1000000 ∧ (safeD D).length ≤ 1000000 by
    have h3 := hW.cnt
    have h4 := hW.lim
    refine ⟨?_, ?_⟩
    · unfold filesD toldN
      rw [List.length_map]
      omega
    · unfold safeD toldN
      rw [List.length_map]
      have h1 := (skN_perm D.safeN).length_eq
      have h2 := hW.nlen (hW.saf 0)
      rw [List.length_map] at h1
      have h5 : (D.namesAt 0).length = D.safeN.length := rfl
      omega)
  clear h hW hT ho
  go_enter Tryz.func11, Tryz.ntmps11
  go_wp2_with (
    go_at_call 16
    refine (plist_off H.out.a HW.out.2.2).mono ?_
    rintro e w1 ⟨rfl, hb⟩
    have H1 := hid (And.intro (H.out.below hb) hb)
    clear hb)
  go_wp2_with (
    go_at_call 41
    refine (rlist_off H1.out.1.b HW.out.2.2).mono ?_
    rintro e w2 ⟨rfl, hb⟩
    have H2 := hid (And.intro (H1.out.1.below hb) (bel_on H1.out.2 hb))
    clear hb)
  go_wp2_with (
    go_at_call 17
    refine (pending_dk H2.out.1.a HW.out.1 (by omega)).mono ?_
    rintro e w3 ⟨v3, rfl, hv3, hb⟩
    obtain ⟨a3, c3, rfl⟩ := own_shape hv3
    have HV3 := hid hv3
    clear hv3
    have H3 := hid (And.intro (H2.out.1.below hb) (bel_on H2.out.2 hb))
    clear hb)
  go_wp2_with (
    go_at_call 42
    refine (pending_r H3.out.1.b HW.out.1 (by omega)).mono ?_
    rintro e w4 ⟨v4, rfl, hv4, hb⟩
    obtain ⟨a4, c4, rfl⟩ := own_shape hv4
    have HV4 := hid hv4
    replace HV3 := hid (ownsRow_kept HV3.out (Kept.ofBelow hb) (fun _ _ e => e))
    clear hv4
    have H4 := hid (And.intro (H3.out.1.below hb) (bel_on H3.out.2 hb))
    clear hb)
  go_wp2_with (
    go_at_call 18
    refine (heldQ_dk H4.out.1.a HW.out.1).mono ?_
    rintro e w5 ⟨rfl, hb⟩
    replace HV3 := hid (ownsRow_kept HV3.out (Kept.ofBelow hb) (fun _ _ e => e))
    replace HV4 := hid (ownsRow_kept HV4.out (Kept.ofBelow hb) (fun _ _ e => e))
    have H5 := hid (And.intro (H4.out.1.below hb) (bel_on H4.out.2 hb))
    clear hb)
  go_wp2_with (
    go_at_call 43
    refine (held_r H5.out.1.b HW.out.1 (by omega)).mono ?_
    rintro e w6 ⟨rfl, hb⟩
    replace HV3 := hid (ownsRow_kept HV3.out (Kept.ofBelow hb) (fun _ _ e => e))
    replace HV4 := hid (ownsRow_kept HV4.out (Kept.ofBelow hb) (fun _ _ e => e))
    have H6 := hid (And.intro (H5.out.1.below hb) (bel_on H5.out.2 hb))
    clear hb)
  go_wp2_with (first
    | (go_at_call 44; refine (nil_texts _).mono ?_; rintro e wa ⟨rfl, ea⟩; rw [ea]; clear ea wa)
    | (go_at_call 45
       refine (ints_same _ _ (pendD D) w6 (ln_of_owns HV3.out HPL.out.symm) (ln_of_owns HV4.out HPL.out.symm) (by rw [HPL.out]; omega)).mono ?_
       rintro e wb ⟨rfl, m2, e2⟩
       rw [e2]
       have H7 := hid (And.intro (H6.out.1.below (below_drewN (Below.refl _ w6) m2)) (below_drewN H6.out.2 m2))
       clear e2 wb)
    | (go_at_call 29
       refine (files_dk H7.out.1.a HW.out.1).mono ?_
       rintro e w8 ⟨v8, rfl, hv8, hb⟩
       obtain ⟨a8, c8, rfl⟩ := hv8.shape
       have HV8 := hid (hv8.fbl (by have := HSZ.out; omega))
       have H8 := hid (And.intro (H7.out.1.below hb) (bel_on H7.out.2 hb))
       clear hb hv8))
  go_wp2_with (first
    | (go_at_call 46
       refine (rFiles_r H8.out.1.b HW.out.1 (by omega) HW.out.2.1).mono ?_
       rintro e w9 ⟨v9, rfl, hv9, hb⟩
       obtain ⟨a9, c9, rfl⟩ := hv9.1
       have HV9 := hid (And.intro (HV8.out.below hb) hv9)
       have H9 := hid (And.intro (H8.out.1.below hb) (bel_on H8.out.2 hb))
       clear hb hv9)
    | (go_at_call 39
       refine (files_fbl HV9.out.1 HV9.out.2 HFL.out.1 (by have := HSZ.out; omega)).mono ?_
       rintro e wa ⟨rfl, m3, e3⟩
       rw [e3]
       have H10 := hid (And.intro (H9.out.1.below (below_drewN (Below.refl _ _) m3)) (below_drewN H9.out.2 m3))
       clear e3 wa H9 HV9)
    | (go_at_call 30
       refine (safe_dk H10.out.1.a HW.out.1).mono ?_
       rintro e w11 ⟨v11, rfl, hv11, hb⟩
       obtain ⟨a11, c11, rfl⟩ := hv11.shape
       have HV11 := hid (hv11.fbl (by have := HSZ.out; omega))
       have H11 := hid (And.intro (H10.out.1.below hb) (bel_on H10.out.2 hb))
       clear hb hv11))
  go_wp2_with (first
    | (go_at_call 47
       refine (rSafe_r H11.out.1.b HW.out.1 (by omega)).mono ?_
       rintro e w12 ⟨v12, rfl, hv12, hb⟩
       obtain ⟨a12, c12, rfl⟩ := hv12.1
       have HV12 := hid (And.intro (HV11.out.below hb) hv12)
       have H12 := hid (And.intro (H11.out.1.below hb) (bel_on H11.out.2 hb))
       clear hb hv12)
    | (go_at_call 39
       refine (files_fbl HV12.out.1 HV12.out.2 HFL.out.2 (by have := HSZ.out; omega)).mono ?_
       rintro e wa ⟨rfl, m4, e4⟩
       rw [e4]
       have H13 := hid (And.intro (H12.out.1.below (below_drewN (Below.refl _ _) m4)) (below_drewN H12.out.2 m4))
       obtain ⟨-, -, -, -, -, -, -, x7, x8, -, x10, -⟩ := H13.out.1.a.disk.cells
       obtain ⟨-, -, -, -, -, -, -, -, y8, y9, y10⟩ := H13.out.1.b.cells
       clear e4 wa H12 HV12)
    | (go_at_call 31; refine (off_any d D.off _ x7).mono ?_; rintro e wb ⟨rfl, eb⟩; rw [eb]; clear eb wb)
    | (go_at_call 48; refine (roff_any r D.off _ y10).mono ?_; rintro e wb ⟨rfl, eb⟩; rw [eb]; clear eb wb)
    | (go_at_call 32; refine (strokes_any d D.st _ x8).mono ?_; rintro e wb ⟨rfl, eb⟩; rw [eb]; clear eb wb)
    | (go_at_call 49; refine (rstrokes_any r D.st _ y8).mono ?_; rintro e wb ⟨rfl, eb⟩; rw [eb]; clear eb wb)
    | (go_at_call 33; refine (reads_any d D.rd _ x10).mono ?_; rintro e wb ⟨rfl, eb⟩; rw [eb]; clear eb wb)
    | (go_at_call 50; refine (rreads_any r D.rd _ y9).mono ?_; rintro e wb ⟨rfl, eb⟩; rw [eb]; clear eb wb))
  go_ret
  exact ⟨rfl, H13.out.2⟩

set_option maxRecDepth 100000 in
set_option maxHeartbeats 6400000 in
theorem alike_on (h : Pr w d r t R D D) (hW : WD n D) (hn : n ≤ 90000) (hT : TOK D) (ho : D.off = false) : Calls Tryz.prog 11 #[.pointer (some ⟨d, 0, none⟩), .pointer (some ⟨r, 0, none⟩)] w fun x w' => x = .returned (.bool true) ∧ Below w.heap.size w w' := by
  have H := hid h
  have HW := hid (And.intro hW (And.intro hT ho))
  have hfl : D.files.length ≤ 1000 := by have h1 := hW.cnt; have h2 := hW.lim; omega
  have htl := hW.tur
  have hnm : (skN D.names).length ≤ 1000 := by
    have h1 := (skN_perm D.names).length_eq
    have h2 := hW.nlen hW.nam
    have h3 := hW.cnt
    have h4 := hW.lim
    rw [List.length_map] at h1
    omega
  have HSK := hid (show D.names.length = (skN D.names).length by have h1 := (skN_perm D.names).length_eq; rw [List.length_map] at h1; exact h1.symm)
  have hsz : heldD D ≤ 4194304 := by have h1 : ((heldD D : Nat) : Int) ≤ D.room := hW.hld; have h2 := hW.room; omega
  have HSZ := hid (And.intro (files_sz hW) (And.intro (safe_sz hW) hsz))
  have hst := hW.st
  have hrd := hW.rd
  have HPL := hid (show (pendD D).length = D.files.length by simp [pendD])
  have HFL := hid (show (filesD D).length ≤ 1000000 ∧ (safeD D).length ≤ 1000000 by
    have h3 := hW.cnt
    have h4 := hW.lim
    refine ⟨?_, ?_⟩
    · unfold filesD toldN
      rw [List.length_map]
      omega
    · unfold safeD toldN
      rw [List.length_map]
      have h1 := (skN_perm D.safeN).length_eq
      have h2 := hW.nlen (hW.saf 0)
      rw [List.length_map] at h1
      have h5 : (D.namesAt 0).length = D.safeN.length := rfl
      omega)
  clear h hW hT ho
  go_enter Tryz.func11, Tryz.ntmps11
  go_wp2_with (
    go_at_call 16
    refine (plist_on H.out.a HW.out.1 HW.out.2.2).mono ?_
    rintro e w1 ⟨v1, rfl, hv1, hb⟩
    rw [HSK.out] at hv1
    obtain ⟨a1, c1, rfl⟩ := own_shape hv1
    have HV1 := hid hv1
    clear hv1
    have H1 := hid (And.intro (H.out.below hb) hb)
    clear hb)
  go_wp2_with (
    go_at_call 41
    refine (list_r H1.out.1.b HW.out.1 (by omega) HW.out.2.1 HW.out.2.2).mono ?_
    rintro e w2 ⟨v2, rfl, hv2, hb⟩
    obtain ⟨a2, c2, rfl⟩ := own_shape hv2
    have HV2 := hid hv2
    replace HV1 := hid (ownsRow_kept HV1.out (Kept.ofBelow hb) (fun _ _ e => e))
    clear hv2
    have H2 := hid (And.intro (H1.out.1.below hb) (bel_on H1.out.2 hb))
    clear hb)
  go_wp2_with (
    go_at_call 17
    refine (pending_dk H2.out.1.a HW.out.1 (by omega)).mono ?_
    rintro e w3 ⟨v3, rfl, hv3, hb⟩
    replace HV1 := hid (ownsRow_kept HV1.out (Kept.ofBelow hb) (fun _ _ e => e))
    replace HV2 := hid (ownsRow_kept HV2.out (Kept.ofBelow hb) (fun _ _ e => e))
    obtain ⟨a3, c3, rfl⟩ := own_shape hv3
    have HV3 := hid hv3
    clear hv3
    have H3 := hid (And.intro (H2.out.1.below hb) (bel_on H2.out.2 hb))
    clear hb)
  go_wp2_with (
    go_at_call 42
    refine (pending_r H3.out.1.b HW.out.1 (by omega)).mono ?_
    rintro e w4 ⟨v4, rfl, hv4, hb⟩
    replace HV1 := hid (ownsRow_kept HV1.out (Kept.ofBelow hb) (fun _ _ e => e))
    replace HV2 := hid (ownsRow_kept HV2.out (Kept.ofBelow hb) (fun _ _ e => e))
    obtain ⟨a4, c4, rfl⟩ := own_shape hv4
    have HV4 := hid hv4
    replace HV3 := hid (ownsRow_kept HV3.out (Kept.ofBelow hb) (fun _ _ e => e))
    clear hv4
    have H4 := hid (And.intro (H3.out.1.below hb) (bel_on H3.out.2 hb))
    clear hb)
  go_wp2_with (
    go_at_call 18
    refine (heldQ_dk H4.out.1.a HW.out.1).mono ?_
    rintro e w5 ⟨rfl, hb⟩
    replace HV1 := hid (ownsRow_kept HV1.out (Kept.ofBelow hb) (fun _ _ e => e))
    replace HV2 := hid (ownsRow_kept HV2.out (Kept.ofBelow hb) (fun _ _ e => e))
    replace HV3 := hid (ownsRow_kept HV3.out (Kept.ofBelow hb) (fun _ _ e => e))
    replace HV4 := hid (ownsRow_kept HV4.out (Kept.ofBelow hb) (fun _ _ e => e))
    have H5 := hid (And.intro (H4.out.1.below hb) (bel_on H4.out.2 hb))
    clear hb)
  go_wp2_with (
    go_at_call 43
    refine (held_r H5.out.1.b HW.out.1 (by omega)).mono ?_
    rintro e w6 ⟨rfl, hb⟩
    replace HV1 := hid (ownsRow_kept HV1.out (Kept.ofBelow hb) (fun _ _ e => e))
    replace HV2 := hid (ownsRow_kept HV2.out (Kept.ofBelow hb) (fun _ _ e => e))
    replace HV3 := hid (ownsRow_kept HV3.out (Kept.ofBelow hb) (fun _ _ e => e))
    replace HV4 := hid (ownsRow_kept HV4.out (Kept.ofBelow hb) (fun _ _ e => e))
    have H6 := hid (And.intro (H5.out.1.below hb) (bel_on H5.out.2 hb))
    clear hb)
  go_wp2_with (first
    | (go_at_call 44
       refine (texts_same a1 a2 c1 c2 (skN D.names) w6 HV1.out HV2.out (by omega)).mono ?_
       rintro e wa ⟨rfl, hdn⟩
       have hba := hdn.bel
       have HA := hid (And.intro (H6.out.1.below hba) (bel_on H6.out.2 hba))
       replace HV3 := hid (ownsRow_kept HV3.out (Kept.ofBelow hba) (fun _ _ e => e))
       replace HV4 := hid (ownsRow_kept HV4.out (Kept.ofBelow hba) (fun _ _ e => e))
       clear hdn hba)
    | (go_at_call 45
       refine (ints_same _ _ (pendD D) _ (ln_of_owns HV3.out HPL.out.symm) (ln_of_owns HV4.out HPL.out.symm) (by rw [HPL.out]; omega)).mono ?_
       rintro e wb ⟨rfl, hdn⟩
       have hba := hdn.bel
       have H7 := hid (And.intro (HA.out.1.below hba) (bel_on HA.out.2 hba))
       clear hdn hba)
    | (go_at_call 29
       refine (files_dk H7.out.1.a HW.out.1).mono ?_
       rintro e w8 ⟨v8, rfl, hv8, hb⟩
       obtain ⟨a8, c8, rfl⟩ := hv8.shape
       have HV8 := hid (hv8.fbl (by have := HSZ.out; omega))
       have H8 := hid (And.intro (H7.out.1.below hb) (bel_on H7.out.2 hb))
       clear hb hv8))
  go_wp2_with (first
    | (go_at_call 46
       refine (rFiles_r H8.out.1.b HW.out.1 (by omega) HW.out.2.1).mono ?_
       rintro e w9 ⟨v9, rfl, hv9, hb⟩
       obtain ⟨a9, c9, rfl⟩ := hv9.1
       have HV9 := hid (And.intro (HV8.out.below hb) hv9)
       have H9 := hid (And.intro (H8.out.1.below hb) (bel_on H8.out.2 hb))
       clear hb hv9)
    | (go_at_call 39
       refine (files_fbl HV9.out.1 HV9.out.2 HFL.out.1 (by have := HSZ.out; omega)).mono ?_
       rintro e wa ⟨rfl, m3, e3⟩
       rw [e3]
       have H10 := hid (And.intro (H9.out.1.below (below_drewN (Below.refl _ _) m3)) (below_drewN H9.out.2 m3))
       clear e3 wa H9 HV9)
    | (go_at_call 30
       refine (safe_dk H10.out.1.a HW.out.1).mono ?_
       rintro e w11 ⟨v11, rfl, hv11, hb⟩
       obtain ⟨a11, c11, rfl⟩ := hv11.shape
       have HV11 := hid (hv11.fbl (by have := HSZ.out; omega))
       have H11 := hid (And.intro (H10.out.1.below hb) (bel_on H10.out.2 hb))
       clear hb hv11))
  go_wp2_with (first
    | (go_at_call 47
       refine (rSafe_r H11.out.1.b HW.out.1 (by omega)).mono ?_
       rintro e w12 ⟨v12, rfl, hv12, hb⟩
       obtain ⟨a12, c12, rfl⟩ := hv12.1
       have HV12 := hid (And.intro (HV11.out.below hb) hv12)
       have H12 := hid (And.intro (H11.out.1.below hb) (bel_on H11.out.2 hb))
       clear hb hv12)
    | (go_at_call 39
       refine (files_fbl HV12.out.1 HV12.out.2 HFL.out.2 (by have := HSZ.out; omega)).mono ?_
       rintro e wa ⟨rfl, m4, e4⟩
       rw [e4]
       have H13 := hid (And.intro (H12.out.1.below (below_drewN (Below.refl _ _) m4)) (below_drewN H12.out.2 m4))
       obtain ⟨-, -, -, -, -, -, -, x7, x8, -, x10, -⟩ := H13.out.1.a.disk.cells
       obtain ⟨-, -, -, -, -, -, -, -, y8, y9, y10⟩ := H13.out.1.b.cells
       clear e4 wa H12 HV12)
    | (go_at_call 31; refine (off_any d D.off _ x7).mono ?_; rintro e wb ⟨rfl, eb⟩; rw [eb]; clear eb wb)
    | (go_at_call 48; refine (roff_any r D.off _ y10).mono ?_; rintro e wb ⟨rfl, eb⟩; rw [eb]; clear eb wb)
    | (go_at_call 32; refine (strokes_any d D.st _ x8).mono ?_; rintro e wb ⟨rfl, eb⟩; rw [eb]; clear eb wb)
    | (go_at_call 49; refine (rstrokes_any r D.st _ y8).mono ?_; rintro e wb ⟨rfl, eb⟩; rw [eb]; clear eb wb)
    | (go_at_call 33; refine (reads_any d D.rd _ x10).mono ?_; rintro e wb ⟨rfl, eb⟩; rw [eb]; clear eb wb)
    | (go_at_call 50; refine (rreads_any r D.rd _ y9).mono ?_; rintro e wb ⟨rfl, eb⟩; rw [eb]; clear eb wb))
  go_ret
  exact ⟨rfl, H13.out.2⟩

theorem alike_any (h : Pr w d r t R D D) (hW : WD n D) (hn : n ≤ 90000) (hT : TOK D) : Calls Tryz.prog 11 #[.pointer (some ⟨d, 0, none⟩), .pointer (some ⟨r, 0, none⟩)] w fun x w' => x = .returned (.bool true) ∧ Below w.heap.size w w' := by
  cases ho : D.off
  · exact alike_on h hW hn hT ho
  · exact alike_off h hW hn hT ho

end

end Go.Proofs.YtlmompdfombgeaaGreat

namespace Go.Proofs.YtlmompdfombgeaaGreat
open Go.RowKit Go.MapKept

set_option maxRecDepth 100000 in
set_option maxHeartbeats 6400000 in
theorem st_Crash {w0 w : World} {d r : Nat} {t : Wt} {R : Rt} {D : Dq} {n : Nat} (x : Sp) (p : SPre w0 w d r t R D n x) (hk : x.kind = 10) :
    Calls Tryz.prog 14 #[.pointer (some ⟨d, 0, none⟩), .pointer (some ⟨r, 0, none⟩), .agg #[.int .i64 x.kind, .string x.name, .string x.to, x.dv, .int .i64 x.n, x.sv, x.rv, .int .i64 x.pn, x.fv]] w (SPost w d r t R D n) := by
  obtain ⟨hx, hw0, hlo, hsm, hpr, hwd, hnn, htk, hf1, hf2⟩ := p
  obtain ⟨kind, name, tto, dv, data, nn, sv, gs, rv, gr, pn, fv, pk⟩ := x
  obtain ⟨-, -, hpn, hn1, hn2, hdt, hoct, hfs, -, hfr, -, hpk⟩ := hx
  obtain ⟨m1, m2, m3, m4, m5, m6, m7⟩ := hsm
  obtain ⟨a1, q1, e1, d1, d2⟩ := hdt.shape
  obtain ⟨a2, q2, e2, d3, d4⟩ := hfs.shape
  obtain ⟨a3, q3, e3, d5, d6⟩ := hfr.shape
  obtain ⟨a4, q4, e4, d7, d8⟩ := hpk.1.shape
  dsimp only at e1 e2 e3 e4 hn1 hn2 hk d1 d2 d3 d4 d5 d6 d7 d8 hdt hfs hfr hpk m1 m2 m3 m4 m5 m6 m7 hpn
  subst e1 e2 e3 e4
  dsimp only
  obtain rfl : kind = 10 := hk
  have hdt' : Rf w0 1 (.slice a1 data.length q1) data.length (B8 data) := by
    rw [← flat_u8]
    exact hdt
  have hsl0 := hdt'.sl
  have hw0z := hw0.size
  have hPl := hpr.lt
  have hsz : szF (crashP pn (pksOf pk) D).1 ≤ 4194304 := by have h0 := crash_sz hwd pn (pksOf pk); have h1 : ((heldD D : Nat) : Int) ≤ D.room := hwd.hld; have h2 := hwd.room; omega
  have hln := crash_len hwd pn (pksOf pk)
  have HX := hid (And.intro hpr (And.intro hw0 (And.intro hsl0 (And.intro hlo (And.intro hwd (And.intro htk (And.intro hsz hln)))))))
  have HPL := hid hPl
  have HPK := hid (And.intro hpk (And.intro m7 (show ∀ p ∈ pk, I64 p.done ∧ ∀ x ∈ p.lost, I64 x from fun p hp => ⟨(hpk.2 p hp).1, (hpk.2 p hp).2.2.1⟩)))
  clear hpr hw0 hsl0 hfs hfr hpk hdt hdt' hoct m7 hlo hwd htk hPl hsz hln
  have hbx : Below w.heap.size w (w.alloc (.cells #[.int .i64 10, .string name, .string tto, .slice a1 data.length q1, .int .i64 nn, .slice a2 gs.length q2, .slice a3 gr.length q3, .int .i64 pn, .slice a4 pk.length q4] 43)) := (Below.refl _ _).alloc (Nat.le_refl _) _
  have HBX := hid hbx
  clear hbx
  go_enter Tryz.func14, Tryz.ntmps14
  go_wp2_with (
    go_at_call 51
    refine (roomy_any (.slice a1 data.length q1) data _ ((HX.out.2.2.1.1.below HX.out.2.1).below HBX.out) (by omega)).mono ?_
    rintro e w1 ⟨rfl, ho1, hb1⟩
    have es := (show (w.alloc (.cells #[.int .i64 10, .string name, .string tto, .slice a1 data.length q1, .int .i64 nn, .slice a2 gs.length q2, .slice a3 gr.length q3, .int .i64 pn, .slice a4 pk.length q4] 43)).heap.size = w.heap.size + 1 from by simp)
    rw [es] at ho1 hb1 ⊢
    have hbw1 : Below w.heap.size w w1 := HBX.out.trans (hb1.mono (by omega))
    have x0 : w1.cell? ⟨w.heap.size, 0, none⟩ = some (.int .i64 10) := (hb1.cell (by simp)).trans (by simp [go_sem])
    have x1 : w1.cell? ⟨w.heap.size, 1, none⟩ = some (.string name) := (hb1.cell (by simp)).trans (by simp [go_sem])
    have x2 : w1.cell? ⟨w.heap.size, 2, none⟩ = some (.string tto) := (hb1.cell (by simp)).trans (by simp [go_sem])
    have x3 : w1.cell? ⟨w.heap.size, 3, none⟩ = some (.slice a1 data.length q1) := (hb1.cell (by simp)).trans (by simp [go_sem])
    have x4 : w1.cell? ⟨w.heap.size, 4, none⟩ = some (.int .i64 nn) := (hb1.cell (by simp)).trans (by simp [go_sem])
    have x5 : w1.cell? ⟨w.heap.size, 5, none⟩ = some (.slice a2 gs.length q2) := (hb1.cell (by simp)).trans (by simp [go_sem])
    have x6 : w1.cell? ⟨w.heap.size, 6, none⟩ = some (.slice a3 gr.length q3) := (hb1.cell (by simp)).trans (by simp [go_sem])
    have x7 : w1.cell? ⟨w.heap.size, 7, none⟩ = some (.int .i64 pn) := (hb1.cell (by simp)).trans (by simp [go_sem])
    have x8 : w1.cell? ⟨w.heap.size, 8, none⟩ = some (.slice a4 pk.length q4) := (hb1.cell (by simp)).trans (by simp [go_sem])
    have hz1 : w.heap.size + 1 < w1.heap.size := hp_lt ho1
    have H1 := hid (And.intro ho1 (And.intro hbw1 (HX.out.1.below hbw1)))
    clear ho1 hb1 es hbw1)
  have HSD := hid (show ∀ W, Kept (Pft d r t R D) w1 W → Sn W (.slice a1 data.length q1) data ∧ Own W (w.heap.size + 1) (rm data) from fun W hk => by
    have hb0 : Below w0.heap.size w0 W := (HX.out.2.1.trans (H1.out.2.1.mono hw0z)).trans (hk.below (Nat.le_trans hw0z H1.out.2.1.size) (fun k hk e => by have := HX.out.2.2.2.1 k e; omega))
    exact ⟨HX.out.2.2.1.1.below hb0 |> fun h => ⟨h, HX.out.2.2.1.2⟩, hp_kept H1.out.1 hk (fun e => by have := HPL.out _ e; omega)⟩)
  have HB0 := hid (show ∀ W, Kept (Pft d r t R D) w1 W → Below w0.heap.size w0 W from fun W hk => (HX.out.2.1.trans (H1.out.2.1.mono hw0z)).trans (hk.below (Nat.le_trans hw0z H1.out.2.1.size) (fun k hk e => by have := HX.out.2.2.2.1 k e; omega)))
  have hdl : d < w.heap.size := HPL.out d (.inl (.inl rfl))
  have hrl : r < w.heap.size := HPL.out r (.inr (.inl rfl))
  have hdlo : w0.heap.size ≤ d := HX.out.2.2.2.1 d (.inl (.inl rfl))
  have hrlo : w0.heap.size ≤ r := HX.out.2.2.2.1 r (.inr (.inl rfl))
  have hP1 : Pks w1 (.slice a4 pk.length q4) pk := HPK.out.1.below (HX.out.2.1.trans (H1.out.2.1.mono hw0z))
  have HP := hid hP1
  clear hP1
  go_wp2_with (first
    | (go_at_call 64
       refine (picked_any pn (.slice a4 pk.length q4) pk w1 HP.out m6 HPK.out.2.1).mono ?_
       rintro e w2 ⟨g, cq, qs, rfl, hqs, hb2⟩
       have t3 := (hb2.cell (World.block_lt_of_cell? _ _ x3)).trans x3
       have t7 := (hb2.cell (World.block_lt_of_cell? _ _ x7)).trans x7
       have t8 := (hb2.cell (World.block_lt_of_cell? _ _ x8)).trans x8
       have hzz := hb2.size
       have H2 := hid (And.intro hqs hb2)
       clear hqs hb2))
  have hW2 : Below w1.heap.size w1 (w2.alloc (.cells #[.int .i64 pn, .slice (some ⟨g, 0, none⟩) pk.length cq] 41)) := H2.out.2.alloc H2.out.2.size _
  have hqW : Qks (w2.alloc (.cells #[.int .i64 pn, .slice (some ⟨g, 0, none⟩) pk.length cq] 41)) w1.heap.size g cq pk qs := H2.out.1.kept ((Kept.refl (fun _ => False) w2).alloc _) (fun _ _ e => e)
  have p0 : (w2.alloc (.cells #[.int .i64 pn, .slice (some ⟨g, 0, none⟩) pk.length cq] 41)).cell? ⟨w2.heap.size, 0, none⟩ = some (.int .i64 pn) := by simp [go_sem]
  have p1 : (w2.alloc (.cells #[.int .i64 pn, .slice (some ⟨g, 0, none⟩) pk.length cq] 41)).cell? ⟨w2.heap.size, 1, none⟩ = some (.slice (some ⟨g, 0, none⟩) pk.length cq) := by simp [go_sem]
  have u3 : (w2.alloc (.cells #[.int .i64 pn, .slice (some ⟨g, 0, none⟩) pk.length cq] 41)).cell? ⟨w.heap.size, 3, none⟩ = some (.slice a1 data.length q1) := (World.cell?_alloc_past _ _ _ (World.block_lt_of_cell? _ _ t3)).trans t3
  have u7 : (w2.alloc (.cells #[.int .i64 pn, .slice (some ⟨g, 0, none⟩) pk.length cq] 41)).cell? ⟨w.heap.size, 7, none⟩ = some (.int .i64 pn) := (World.cell?_alloc_past _ _ _ (World.block_lt_of_cell? _ _ t7)).trans t7
  have u8 : (w2.alloc (.cells #[.int .i64 pn, .slice (some ⟨g, 0, none⟩) pk.length cq] 41)).cell? ⟨w.heap.size, 8, none⟩ = some (.slice a4 pk.length q4) := (World.cell?_alloc_past _ _ _ (World.block_lt_of_cell? _ _ t8)).trans t8
  have hzW : w2.heap.size < (w2.alloc (.cells #[.int .i64 pn, .slice (some ⟨g, 0, none⟩) pk.length cq] 41)).heap.size := by simp
  obtain ⟨W, hW⟩ : ∃ W, W = w2.alloc (.cells #[.int .i64 pn, .slice (some ⟨g, 0, none⟩) pk.length cq] 41) := ⟨_, rfl⟩
  rw [← hW] at hW2 hqW p0 p1 u3 u7 u8 hzW ⊢
  clear hW t3 t7 t8
  have hpW := PG.still H1.out.2.2 (hW2.drew)
  have hqD : Qks W.drew w1.heap.size g cq pk qs := hqW.kept (Kept.ofBelow ((Below.refl _ W).drew)) (fun _ _ e => e)
  have hqp := hqD.pks HPK.out.2.2
  have HW := hid (And.intro hpW (And.intro hqD (And.intro hqp hW2)))
  clear hW2 hqW hqD hqp hpW x0 x1 x2 x3 x4 x5 x6 x7 x8
  go_region_held (fun w' => w'.cell? ⟨w.heap.size, 3, none⟩ = some (.slice a1 data.length q1) ∧ w'.cell? ⟨w.heap.size, 7, none⟩ = some (.int .i64 pn) ∧ w'.cell? ⟨w.heap.size, 8, none⟩ = some (.slice a4 pk.length q4) ∧ w'.cell? ⟨w2.heap.size, 0, none⟩ = some (.int .i64 pn) ∧ w'.cell? ⟨w2.heap.size, 1, none⟩ = some (.slice (some ⟨g, 0, none⟩) pk.length cq)) (go_keep) (first
    | (go_at_call 28
       refine (crash_dk HW.out.1.pr.a HX.out.2.2.2.2.1 (by omega) pn hpn (.slice (some ⟨g, 0, none⟩) pk.length cq) (qs.map qPk) HW.out.2.2.1.1 (by rw [HW.out.2.2.1.2.2.2.1]; omega) (fun p hp => by obtain ⟨p', h1, h2⟩ := HW.out.2.2.1.2.2.2.2 p hp; rw [h2]; have := HPK.out.2.1 p' h1; omega) (fun k e e2 => by have h1 := HW.out.2.2.1.2.2.1 k e; have h2 := HPL.out k (.inl e2); omega)).mono ?_
       rintro e w3 ⟨v3, t2, rfl, hfb, g3⟩
       rw [HW.out.2.2.1.2.1] at hfb g3
       obtain ⟨ao3, cp3, rfl⟩ := hfb.shape
       have p3 := HW.out.1.trans (HW.out.1.pr.prog g3)
       have hkW := (HW.out.1.pr.prog g3).kp
       have hn1 : ¬ Pft d r t R D w.heap.size := fun e => absurd (HPL.out _ e) (Nat.lt_irrefl _)
       have hn2 : ¬ Pft d r t R D w2.heap.size := fun e => by have := HPL.out _ e; omega
       have v3 : w3.cell? ⟨w.heap.size, 3, none⟩ = some (.slice a1 data.length q1) := hkW.cell u3 hn1
       have v7 : w3.cell? ⟨w.heap.size, 7, none⟩ = some (.int .i64 pn) := hkW.cell u7 hn1
       have v8 : w3.cell? ⟨w.heap.size, 8, none⟩ = some (.slice a4 pk.length q4) := hkW.cell u8 hn1
       have v0 : w3.cell? ⟨w2.heap.size, 0, none⟩ = some (.int .i64 pn) := hkW.cell p0 hn2
       have v1 : w3.cell? ⟨w2.heap.size, 1, none⟩ = some (.slice (some ⟨g, 0, none⟩) pk.length cq) := hkW.cell p1 hn2
       have hrB : r < W.drew.heap.size := HW.out.1.pr.lt r (.inr (.inl rfl))
       have H3 := hid (And.intro hfb (And.intro p3 (And.intro hkW hrB)))
       clear g3 p3 hkW hfb hn1 hn2 hrB)
    | (go_at_call 65
       refine (crash_r H3.out.2.1.pr.b HX.out.2.2.2.2.1 (by omega) HX.out.2.2.2.2.2.1 pn hpn (.slice a4 pk.length q4) pk (HPK.out.1.below (HB0.out _ H3.out.2.1.kp)) m6 HPK.out.2.1 (fun e => by have := pk_low HPK.out.1 e; omega)).mono ?_
       rintro e w4 ⟨v4, rfl, hfl, ⟨R3, g4⟩, hk4⟩
       obtain ⟨ao4, cp4, rfl⟩ := hfl.1
       have p4 := H3.out.2.1.trans (H3.out.2.1.pr.doc g4)
       have y3 := hk4.cell v3 (by dsimp only; omega)
       have y7 := hk4.cell v7 (by dsimp only; omega)
       have y8 := hk4.cell v8 (by dsimp only; omega)
       have y0 := hk4.cell v0 (by dsimp only; omega)
       have y1 := hk4.cell v1 (by dsimp only; omega)
       have hf3 := (H3.out.1.kept hk4 (fun k h1 _ e => by have := H3.out.2.2.2; omega)).fbl (by have := HX.out.2.2.2.2.2.2.1; omega)
       have hq4 := (HW.out.2.1.kept H3.out.2.2.1 (fun k h1 e => by have := HPL.out k e; omega)).kept hk4 (fun k h1 e => by omega)
       have H4 := hid (And.intro hf3 (And.intro hfl (And.intro p4 hq4)))
       clear g4 p4 hk4 hfl hf3 hq4)
    | (go_at_call 39
       refine (files_fbl H4.out.1 H4.out.2.1 (by have := HX.out.2.2.2.2.2.2.2; omega) (by have := HX.out.2.2.2.2.2.2.1; omega)).mono ?_
       rintro e wa ⟨rfl, hdn⟩
       have z3 := (hdn.bel.cell (World.block_lt_of_cell? _ _ y3)).trans y3
       have z7 := (hdn.bel.cell (World.block_lt_of_cell? _ _ y7)).trans y7
       have z8 := (hdn.bel.cell (World.block_lt_of_cell? _ _ y8)).trans y8
       have z0 := (hdn.bel.cell (World.block_lt_of_cell? _ _ y0)).trans y0
       have z1 := (hdn.bel.cell (World.block_lt_of_cell? _ _ y1)).trans y1
       have HA := hid hdn.bel
       clear hdn)
    | (go_at_call 66
       refine (unpicked_any w1.heap.size g cq pn (.slice a4 pk.length q4) pk qs wa (H4.out.2.2.2.kept (Kept.ofBelow HA.out) (fun _ _ e => e)) (HPK.out.1.below (HB0.out _ (H4.out.2.2.1.trans (PG.still H4.out.2.2.1.pr HA.out)).kp)) m6 HPK.out.2.1).mono ?_
       rintro e w5 ⟨rfl, hb5⟩
       have s3 := (hb5.cell (World.block_lt_of_cell? _ _ z3)).trans z3
       have s7 := (hb5.cell (World.block_lt_of_cell? _ _ z7)).trans z7
       have s8 := (hb5.cell (World.block_lt_of_cell? _ _ z8)).trans z8
       have s0 := (hb5.cell (World.block_lt_of_cell? _ _ z0)).trans z0
       have s1 := (hb5.cell (World.block_lt_of_cell? _ _ z1)).trans z1
       have hp4a := H4.out.2.2.1.trans (PG.still H4.out.2.2.1.pr HA.out)
       have H6 := hid (hp4a.trans (PG.still hp4a.pr hb5))
       clear hb5 hp4a))
  go_wp2_with (
    go_at_call 68
    refine (left_any (.slice a1 data.length q1) data (w.heap.size + 1) w5 (HSD.out w5 H6.out.kp).1.1 (by omega) (HSD.out w5 H6.out.kp).2).mono ?_
    rintro e w9 ⟨rfl, hdn⟩
    have H9 := hid hdn
    clear hdn)
  go_loopw [16] (fun i wr => ∃ (k : Nat) (bs : List Int), k ≤ data.length + 40 ∧ i = .int .i64 k ∧ bs.length = data.length + 40 ∧ Own wr (w.heap.size + 1) bs ∧ Hid (Kept (fun k => k = w.heap.size + 1) w5 wr)) (fun i _ => data.length + 40 - (intOf i).toNat)
  case atStart =>
    obtain ⟨m, rfl⟩ := H9.out
    exact ⟨0, rm data, Nat.zero_le _, by go_num, by simp [rm], (HSD.out w5 H6.out.kp).2, hid ((Kept.refl _ _).drewN m)⟩
  case round =>
    obtain ⟨k, bs, hk9, rfl, hbs, ho9, HK⟩ := hrel
    by_cases hlt : k < data.length + 40
    · have cd := ho9.cell k bs[k] (by simp [hbs, hlt])
      have fz := free_of_block (o := k) ho9
      have i2 : (k : Int) < ((data.length + 40 : Nat) : Int) := by omega
      have i3 : (k : Int) < (data.length : Int) + 40 := by omega
      have HO := hid ho9
      clear ho9
      go_wp2
      go_roundw
      case rel => exact ⟨k + 1, bs.set k 99, by omega, by go_num, by simp [hbs], HO.out.set k 99, hid (HK.out.setCell (p := ⟨w.heap.size + 1, k, none⟩) (fun _ => rfl) _)⟩
      case measure => simp [intOf]; omega
    · have i2 : ¬ (k : Int) < ((data.length + 40 : Nat) : Int) := by omega
      have i3 : ¬ (k : Int) < (data.length : Int) + 40 := by omega
      have HO := hid ho9
      clear ho9
      go_wp2
      go_ret
      exact ⟨rfl, t2, R3, (crashP pn (pksOf pk) D).2, PG.wipe HX.out.1 H1.out.2.1 H6.out HK.out (by omega) hz1, (HX.out.2.2.2.2.1.crashP pn (pksOf pk)).mono (by omega), TOK.nil rfl, Nat.zero_le _, Nat.zero_le _⟩

end Go.Proofs.YtlmompdfombgeaaGreat
