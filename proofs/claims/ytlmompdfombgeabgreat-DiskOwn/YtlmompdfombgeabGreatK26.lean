import Derived.Test.YtlmompdfombgeabGreatK25
namespace Go.Proofs.YtlmompdfombgeabGreat
open Go.RowKit Go.MapKept

set_option maxRecDepth 100000 in
set_option maxHeartbeats 1600000 in
theorem new_no (room files : Int) (w : World) (h : ¬ (0 ≤ room ∧ room ≤ 4194304 ∧ 0 ≤ files ∧ files ≤ 512)) :
    Calls Tryz.prog 34 #[.int .i64 room, .int .i64 files] w fun x w' => x = .returned (.tuple #[.pointer none, .int .i64 1]) ∧ w' = w := by
  by_cases a : room < 0
  · go_enter Tryz.func34, Tryz.ntmps34
    go_wp2
    go_ret2
    exact ⟨rfl, rfl⟩
  · by_cases b : 4194304 < room
    · go_enter Tryz.func34, Tryz.ntmps34
      go_wp2
      go_ret2
      exact ⟨rfl, rfl⟩
    · by_cases c : files < 0
      · go_enter Tryz.func34, Tryz.ntmps34
        go_wp2
        go_ret2
        exact ⟨rfl, rfl⟩
      · have d : 512 < files := by omega
        go_enter Tryz.func34, Tryz.ntmps34
        go_wp2
        go_ret2
        exact ⟨rfl, rfl⟩

set_option maxRecDepth 100000 in
set_option maxHeartbeats 800000 in
theorem fresh_no (room files : Int) (w : World) (h : ¬ (0 ≤ room ∧ room ≤ 4194304 ∧ 0 ≤ files ∧ files ≤ 512)) :
    Calls Tryz.prog 9 #[.int .i64 room, .int .i64 files] w fun x w' => x = .returned (.pointer none) ∧ w' = w := by
  have HC := hid (new_no room files w h)
  clear h
  go_enter Tryz.func9, Tryz.ntmps9
  go_wp2_with (go_at_call 34; refine HC.out.mono ?_; rintro e w' ⟨rfl, e1⟩; rw [e1]; clear e1 w')
  go_ret
  exact ⟨rfl, rfl⟩

set_option maxRecDepth 100000 in
set_option maxHeartbeats 800000 in
theorem fresh_ok (room files : Int) (w : World) (h0 : 0 ≤ room) (h1 : room ≤ 4194304) (h2 : 0 ≤ files) (h3 : files ≤ 512) :
    Calls Tryz.prog 9 #[.int .i64 room, .int .i64 files] w fun x w' => x = .returned (.pointer (some ⟨w.heap.size, 0, none⟩)) ∧ (∃ t, DkT w' w.heap.size t (newD room files) ∧ ∀ k, Dft w.heap.size t (newD room files) k → w.heap.size ≤ k) ∧ Below w.heap.size w w' := by
  have HC := hid (new_ok room files w h0 h1 h2 h3)
  go_enter Tryz.func9, Tryz.ntmps9
  go_wp2_with (go_at_call 34; refine HC.out.mono ?_; rintro e w1 ⟨rfl, hz, hb⟩; have HZ := hid (And.intro hz hb); clear hz hb)
  go_ret
  exact ⟨rfl, zero_dk HZ.out.1, HZ.out.2⟩

theorem stroke_room (D : Dq) (e : Int) (k : Dq → Int × Dq) (hk : ∀ D, (k D).2.room = D.room ∧ (k D).2.limit = D.limit) : (strokeP D e k).2.room = D.room ∧ (strokeP D e k).2.limit = D.limit := by
  unfold strokeP
  split
  · exact ⟨rfl, rfl⟩
  · split
    · exact ⟨rfl, rfl⟩
    · exact hk (cntS D)

theorem doesP_room (x : Sp) (D : Dq) : (doesP x D).2.room = D.room ∧ (doesP x D).2.limit = D.limit := by
  unfold doesP
  repeat' split
  · exact stroke_room _ _ _ fun D => by unfold createK; split <;> exact ⟨rfl, rfl⟩
  · exact stroke_room _ _ _ fun D => by unfold appK; (repeat' split) <;> exact ⟨rfl, rfl⟩
  · exact stroke_room _ _ _ fun D => by unfold cutK; dsimp only; (repeat' split) <;> exact ⟨rfl, rfl⟩
  · exact stroke_room _ _ _ fun D => by unfold syncK; dsimp only; (repeat' split) <;> exact ⟨rfl, rfl⟩
  · exact stroke_room _ _ _ fun D => ⟨rfl, rfl⟩
  · exact stroke_room _ _ _ fun D => by unfold renK; dsimp only; (repeat' split) <;> exact ⟨rfl, rfl⟩
  · exact stroke_room _ _ _ fun D => ⟨rfl, rfl⟩
  · unfold readP; (repeat' split) <;> exact ⟨rfl, rfl⟩
  · exact ⟨rfl, rfl⟩
  · exact ⟨rfl, rfl⟩
  · unfold handP; (repeat' split) <;> exact ⟨rfl, rfl⟩
  · exact ⟨rfl, rfl⟩

/-- What a crash has left. -/
theorem doesP_crash (x : Sp) (D : Dq) {n : Nat} (h : WD n D) (hk : x.kind = 10) : Calm (doesP x D).2 ∧ heldD (doesP x D).2 ≤ heldD D ∧ (doesP x D).2.files.length ≤ D.files.length ∧ (doesP x D).2.off = false ∧ (doesP x D).2.st = 0 ∧ (doesP x D).2.rd = 0 := by
  have e : doesP x D = (0, (crashP x.pn (pksOf x.pk) D).2) := by
    unfold doesP
    rw [if_neg (by omega), if_neg (by omega), if_neg (by omega), if_neg (by omega), if_neg (by omega), if_neg (by omega), if_neg (by omega), if_neg (by omega), if_neg (by omega), if_pos hk]
  rw [e]
  exact ⟨calm_crash _ _, crash_held h _ _, crash_cnt _ _, rfl, rfl, rfl⟩

end Go.Proofs.YtlmompdfombgeabGreat

namespace Go.Proofs.YtlmompdfombgeabGreat
open Go.RowKit Go.MapKept

section
variable {w : World} {d : Nat} {t : Wt} {D : Dq} {n : Nat}

set_option maxRecDepth 100000 in
set_option maxHeartbeats 800000 in
theorem list_off (h : DkT w d t D) (ho : D.off = true) : Calls Tryz.prog 26 #[.pointer (some ⟨d, 0, none⟩)] w fun x w' => x = .returned (.tuple #[.slice none 0 0, .int .i64 11]) ∧ Below w.heap.size w w' := by
  have hf := find0_dk h
  rw [show pre0 D = 11 by simp [pre0, ho]] at hf
  have HF := hid hf
  clear hf h
  go_enter Tryz.func26, Tryz.ntmps26
  go_wp2_with (
    go_at_call 61
    refine HF.out.mono ?_
    rintro e w1 ⟨rfl, hb⟩
    have HB := hid hb
    clear hb)
  go_ret2
  exact ⟨rfl, HB.out⟩

set_option maxRecDepth 100000 in
set_option maxHeartbeats 800000 in
theorem list_on (h : DkT w d t D) (hW : WD n D) (ho : D.off = false) : Calls Tryz.prog 26 #[.pointer (some ⟨d, 0, none⟩)] w fun x w' => ∃ v, x = .returned (.tuple #[v, .int .i64 0]) ∧ w'.ownsRow w.heap.size 9 1 v D.names.length ((skN D.names).map Value.string) ∧ Below w.heap.size w w' := by
  obtain ⟨c0, c1, c2, c3, c4, c5, c6, c7, c8, c9, c10, c11⟩ := h.disk.cells
  have hdl := hp_lt h.disk
  have hf := find0_dk h
  rw [show pre0 D = 0 by simp [pre0, ho]] at hf
  have hlen : t.kn.length = D.names.length := by rw [h.pn.length_eq]; simp [encN]
  have hnl := hW.nlen hW.nam
  have h3 := hW.cnt
  have h4 := hW.lim
  have hso : ∀ W, Below w.heap.size w W → Calls Tryz.prog 62 #[.map (some t.N)] W fun e w' => ∃ v, e = .returned v ∧ w'.ownsRow W.heap.size 9 1 v D.names.length ((skN D.names).map Value.string) ∧ Below W.heap.size W w' := fun W hb => by
    refine (sorted_gen (h.hN.below hb) (fun x hx => ?_) (by omega)).mono ?_
    · obtain ⟨y, hy, e⟩ := List.mem_map.1 (h.pn.mem_iff.1 hx)
      have := nm_size (hW.nam.ok y hy)
      rw [← e]
      unfold maxLen
      dsimp only
      omega
    · rintro x w' ⟨v, rfl, hrow, _, hb'⟩
      refine ⟨v, rfl, ?_, hb'⟩
      rw [hlen, sk_perm h.pn] at hrow
      unfold skN
      rw [List.map_map]
      exact hrow
  have HF := hid hf
  have HS := hid hso
  clear hf hso h hW c0 c1 c2 c3 c5 c6 c7 c8 c9 c10 c11
  go_enter Tryz.func26, Tryz.ntmps26
  go_wp2_with (first
    | (go_at_call 61
       refine HF.out.mono ?_
       rintro e w1 ⟨rfl, hb⟩
       have a4 := (hb.cell hdl).trans c4
       have HB := hid hb
       clear hb)
    | (go_at_call 62
       refine (HS.out _ HB.out).mono ?_
       rintro e w2 ⟨v, rfl, hrow, hb2⟩
       have H2 := hid (And.intro hrow hb2)
       clear hrow hb2))
  go_ret2
  exact ⟨v, rfl, owns_base H2.out.1 HB.out.size, HB.out.trans (H2.out.2.mono HB.out.size)⟩

theorem nb_sl {B : Nat} {v : Value} {bs : List Int} (h : Nb w B v bs) (hl : bs.length ≤ 100000000) : ∃ a c, v = .slice a bs.length c ∧ Sl w v bs := by
  rcases h with ⟨rfl, rfl⟩ | ⟨Y, rfl, ho, _⟩
  · exact ⟨none, 0, rfl, (sn_nil w).1⟩
  · exact ⟨_, _, rfl, sl_of_owns (B := 0) (ho.owns (Nat.zero_le _) (by unfold maxLen; omega))⟩

/-- Behind a plan of nothing and so many readings. -/
def rdD (D : Dq) (k : Nat) : Dq := { planD [] [] D with rd := k }

theorem rdD_zero (D : Dq) : planD [] [] D = rdD D 0 := rfl

theorem rdD_WD (h : WD n D) (k : Nat) : WD (n + k) (rdD D k) := by
  have h1 := (h.plan [] []).mono (m := n + k) (by omega)
  exact ⟨h1.room, h1.lim, h1.made, h1.asc, h1.rng, h1.cnt, h1.hld, h1.saf, h1.tur, h1.chg, h1.st, ⟨by show (0 : Int) ≤ k; omega, by show (k : Int) ≤ ((n + k : Nat) : Int); omega⟩⟩

theorem rdD_read (hW : WD n D) (ho : D.off = false) (k : Nat) (nm : ByteArray) (m : Int) (hl : lo nm D.names = some m) (hok : nmOK nm = true) : readP (rdD D k) nm = (rowN D m, 0, rdD D (k + 1)) := by
  have hm : m ∈ D.files.map Fi.no := hW.nam.l (nm, m) (lo_mem hl)
  obtain ⟨f, hf⟩ := ff_some hm
  have hlook : (rdD D k).look nm = some f := by
    show (lo nm D.names).bind (fun n => ff n D.files) = some f
    rw [hl]
    exact hf
  have hp : pre1 (rdD D k) nm false 0 = 0 := by
    unfold pre1
    have h1 : (rdD D k).off = false := ho
    rw [h1, hlook, hok]
    simp
  unfold readP
  rw [if_neg (by simpa using hp), if_neg (by simp [rdD, planD, fo, fe]), hlook]
  have e1 : cntR (rdD D k) = rdD D (k + 1) := by
    unfold cntR rdD planD
    simp [fo, ho]
  rw [e1]
  simp [rowN, hf]

theorem filesD_at (hW : WD n D) (i : Nat) (nm : ByteArray) (h : (skN D.names)[i]? = some nm) : ∃ m, lo nm D.names = some m ∧ nmOK nm = true ∧ (filesD D)[i]? = some (nm, rowN D m) := by
  have hm : nm ∈ D.names.map Prod.fst := (skN_perm D.names).mem_iff.1 (List.mem_of_getElem? h)
  obtain ⟨x, hx, rfl⟩ := List.mem_map.1 hm
  refine ⟨x.2, lo_of_mem hW.nam.k hx, hW.nam.ok x hx, ?_⟩
  unfold filesD toldN
  rw [List.getElem?_map, h, Option.map_some, lo_of_mem hW.nam.k hx]
  rfl

end

set_option maxRecDepth 100000 in
set_option maxHeartbeats 3200000 in
theorem sees_no (room most : Int) (v : Value) (xs : List Sp) (w : World) (h : Sps w v xs) (hg : ¬ (0 ≤ room ∧ room ≤ 4194304 ∧ 0 ≤ most ∧ most ≤ 512)) : Calls Tryz.prog 5 #[.int .i64 room, .int .i64 most, v] w fun x w' => x = .returned (.bool true) ∧ Below w.heap.size w w' := by
  obtain ⟨ao, cap, rfl, hc, hcm⟩ := h.1.shape
  have HS := hid h
  clear h
  go_enter Tryz.func5, Tryz.ntmps5
  go_wp2_with (first
    | (go_at_call 7
       refine (much_any (.slice ao xs.length cap) xs w HS.out).mono ?_
       rintro e w1 ⟨hb1, rr, rfl, hm⟩
       have H1 := hid (And.intro hb1 hm)
       clear hb1 hm)
    | (go_at_call 8
       refine (known_any w1).mono ?_
       rintro e w2 ⟨rfl, hb2⟩
       have H2 := hid hb2
       clear hb2)
    | (go_at_call 9
       refine (fresh_no room most w1 hg).mono ?_
       rintro e w2 ⟨rfl, e1⟩
       rw [e1]
       clear e1 w2))
  all_goals
    go_ret
    exact ⟨rfl, H1.out.1.trans (H2.out.mono H1.out.1.size)⟩

set_option maxRecDepth 100000 in
set_option maxHeartbeats 12800000 in
theorem sees_any (room most : Int) (v : Value) (xs : List Sp) (w : World) (h : Sps w v xs) : Calls Tryz.prog 5 #[.int .i64 room, .int .i64 most, v] w fun x w' => x = .returned (.bool true) ∧ Below w.heap.size w w' := by
  by_cases hg : 0 ≤ room ∧ room ≤ 4194304 ∧ 0 ≤ most ∧ most ≤ 512
  · obtain ⟨ao, cap, rfl, hc, hcm⟩ := h.1.shape
    have HS := hid h
    clear h
    obtain ⟨g0, g1, g2, g3⟩ := hg
    go_enter Tryz.func5, Tryz.ntmps5
    go_wp2_with (first
      | (go_at_call 7
         refine (much_any (.slice ao xs.length cap) xs w HS.out).mono ?_
         rintro e w1 ⟨hb1, rr, rfl, hm⟩
         have H1 := hid (And.intro hb1 hm)
         clear hb1 hm)
      | (go_at_call 8
         refine (known_any w1).mono ?_
         rintro e w2 ⟨rfl, hb2⟩
         have H2 := hid hb2
         clear hb2)
      | (go_at_call 9
         refine (fresh_ok room most w1 g0 g1 g2 g3).mono ?_
         rintro e w2 ⟨rfl, ht, hb2⟩
         have H2 := hid (And.intro ht hb2)
         clear ht hb2))
    · go_ret
      exact ⟨rfl, H1.out.1.trans (H2.out.mono H1.out.1.size)⟩
    rename_i hrr _ _
    obtain ⟨hlen, hsmall⟩ := H1.out.2 hrr
    have HM := hid hsmall
    have HB := hid H1.out.1
    clear hsmall H1
    subst hrr
    go_loopw [8] (fun i wr => ∃ (k : Nat) (t : Wt) (D : Dq), k ≤ xs.length ∧ i = .int .i64 k ∧ Hid (DkT wr w1.heap.size t D ∧ WD (2 * k) D ∧ (∀ q, Dft w1.heap.size t D q → w1.heap.size ≤ q) ∧ Below w1.heap.size w1 wr)) (fun i _ => xs.length - (intOf i).toNat)
    case atStart =>
      obtain ⟨⟨t, hd, hlo⟩, hb2⟩ := H2.out
      exact ⟨0, t, newD room most, Nat.zero_le _, by go_num, hid ⟨hd, newD_WD room most g0 g1 g2 g3, hlo, hb2⟩⟩
    case round =>
      obtain ⟨k, t, D, hk, rfl, HR⟩ := hrel
      obtain ⟨hd, hW, hlo, hbr⟩ := HR.out
      by_cases hlt : k < xs.length
      · as_aux_lemma =>
        have i1 : (k : Int) < (xs.length : Int) := by omega
        obtain ⟨b, ofs, cap', e, -, -, hcell⟩ := Rf.elem (f := scs) (fun _ => rfl) (by omega) HS.out.1 k hlt
        injection e with e1 e2 e3
        subst e1 e3
        clear e2
        have hok := HS.out.2 xs[k] (List.getElem_mem hlt)
        have hsm := HM.out xs[k] (List.getElem_mem hlt)
        have hbw : Below w.heap.size w wr := HB.out.trans (hbr.mono HB.out.size)
        obtain ⟨x, hx⟩ : ∃ x, x = xs[k] := ⟨_, rfl⟩
        rw [← hx] at hok hsm hcell
        have hlo' : ∀ q, Dft w1.heap.size t D q → w.heap.size ≤ q := fun q e => Nat.le_trans HB.out.size (hlo q e)
        have hdoes := does_dk x (⟨hd, hW, by omega, hok, hbw, hlo', hsm⟩ : DoesPre w wr w1.heap.size t D (2 * k) x)
        obtain ⟨D', hD'⟩ : ∃ D', D' = (doesP x D).2 := ⟨_, rfl⟩
        obtain ⟨er, her⟩ : ∃ er, er = (doesP x D).1 := ⟨_, rfl⟩
        have hW' : WD (2 * (k + 1)) D' := by rw [hD', Nat.mul_add]; exact hW.doesP x
        simp only [← hD', ← her] at hdoes
        obtain ⟨kind, name, to, dv, data, nn, sv, gs, rv, gr, pn, fv, pk⟩ := x
        obtain ⟨-, -, -, -, -, hdt, -, hfs, -, hfr, -, hpk⟩ := hok
        obtain ⟨a1, q1, e1, d1, d2⟩ := hdt.shape
        obtain ⟨a2, q2, e2, d3, d4⟩ := hfs.shape
        obtain ⟨a3, q3, e3, d5, d6⟩ := hfr.shape
        obtain ⟨a4, q4, e4, d7, d8⟩ := hpk.1.shape
        dsimp only at e1 e2 e3 e4
        subst e1 e2 e3 e4
        have cc : ∀ c u, (scs ⟨kind, name, to, .slice a1 data.length q1, data, nn, .slice a2 gs.length q2, gs, .slice a3 gr.length q3, gr, pn, .slice a4 pk.length q4, pk⟩)[c]? = some u → wr.cell? ⟨b, ofs + k * 9 + c, none⟩ = some u := fun c u hu => (hbw.cell (World.block_lt_of_cell? _ _ (hcell c u hu))).trans (hcell c u hu)
        have c0 : wr.cell? ⟨b, ofs + k * 9, none⟩ = _ := cc 0 _ rfl
        have c1 := cc 1 _ rfl
        have c2 := cc 2 _ rfl
        have c3 := cc 3 _ rfl
        have c4 := cc 4 _ rfl
        have c5 := cc 5 _ rfl
        have c6 := cc 6 _ rfl
        have c7 := cc 7 _ rfl
        have c8 := cc 8 _ rfl
        dsimp only at hdoes
        have HST := hid hdoes
        have HD := hid (And.intro hlo (And.intro hbr hW'))
        clear hcell cc hdt hfs hfr hpk hdoes hx hsm hd hW hlo hlo' hbr hbw hW' hD' her HR d1 d2 d3 d4 d5 d6 d7 d8
        go_wp2_with (
          go_at_call 10
          refine HST.out.mono ?_
          rintro e w3 ⟨rfl, t', hg⟩
          have HG := hid hg
          clear hg)
        go_roundw
        case rel =>
          have hg := HG.out
          obtain ⟨hlo, hbr, hW'⟩ := HD.out
          have b12 : Below w1.heap.size w1 w3 := hbr.trans (hg.kp.below hbr.size (fun q hq e => by have := hlo q e; omega))
          refine ⟨k + 1, t', D', by omega, by go_num, hid ⟨hg.dk, hW', fun q e => ?_, b12⟩⟩
          rcases hg.ft q e with e | e
          · exact hlo q e
          · exact Nat.le_trans hbr.size e
        case measure => simp [intOf]; omega
      · have i3 : ¬ (k : Int) < (xs.length : Int) := by omega
        have hbw : Below w.heap.size w wr := HB.out.trans (hbr.mono HB.out.size)
        obtain ⟨-, -, -, -, -, -, -, -, y8, -, y10, -⟩ := hd.disk.cells
        have hdl := hp_lt hd.disk
        have H := hid (And.intro hd (And.intro hW (And.intro hlo (And.intro hbr hbw))))
        clear hd hW hlo hbr hbw HR
        cases ho : D.off with
        | true => as_aux_lemma =>
          go_wp2_with (first
            | (go_at_call 28
               (with_reducible show Calls _ _ _ wr _)
               refine (strokes_any _ _ _ y8).mono ?_
               rintro e w9 ⟨rfl, e1⟩
               rw [e1]
               clear e1 w9)
            | (go_at_call 29
               (with_reducible show Calls _ _ _ wr _)
               refine (reads_any _ _ _ y10).mono ?_
               rintro e w9 ⟨rfl, e1⟩
               rw [e1]
               clear e1 w9)
            | (go_at_call 14
               refine (files_dk H.out.1 H.out.2.1).mono ?_
               rintro e w2 ⟨v2, rfl, hf2, hb2⟩
               obtain ⟨a1, k1, rfl⟩ := hf2.shape
               have H2 := hid hb2
               clear hf2 hb2)
            | (go_at_call 26
               refine (list_off (H.out.1.below H2.out) ho).mono ?_
               rintro e w3 ⟨rfl, hb3⟩
               have H3 := hid (H2.out.trans (hb3.mono H2.out.size))
               clear hb3)
            | (go_at_call 30
               refine (tell_dk (H.out.1.below H3.out) H.out.2.1 (by omega)).mono ?_
               rintro e w4 ⟨v4, rfl, ht4, hb4⟩
               have H4 := hid (H3.out.trans (hb4.mono H3.out.size))
               have y8' := ((H4.out).cell (World.block_lt_of_cell? _ _ y8)).trans y8
               have y10' := ((H4.out).cell (World.block_lt_of_cell? _ _ y10)).trans y10
               clear ht4 hb4)
            | (go_at_call 28
               (with_reducible show Calls _ _ _ w4 _)
               refine (strokes_any _ _ _ y8').mono ?_
               rintro e w9 ⟨rfl, e1⟩
               rw [e1]
               clear e1 w9)
            | (go_at_call 29
               (with_reducible show Calls _ _ _ w4 _)
               refine (reads_any _ _ _ y10').mono ?_
               rintro e w9 ⟨rfl, e1⟩
               rw [e1]
               clear e1 w9)
            | (go_at_call 16
               refine (off_dk (H.out.1.below H4.out)).mono ?_
               rw [ho]
               rintro e w5 ⟨rfl, hb5⟩
               have H5 := hid (H4.out.trans (hb5.mono H4.out.size))
               clear hb5)
            | (go_at_call 8
               refine (known_any w5).mono ?_
               rintro e w6 ⟨rfl, hb6⟩
               have H6 := hid (H5.out.trans (hb6.mono H5.out.size))
               clear hb6))
          go_ret
          exact ⟨by simp, H.out.2.2.2.2.trans (H6.out.mono H.out.2.2.2.2.size)⟩
        | false => as_aux_lemma =>
          obtain ⟨m, hm⟩ : ∃ m, m = D.names.length := ⟨_, rfl⟩
          have hfl : (filesD D).length = m := by rw [hm]; exact toldN_len _ _
          have hml : m ≤ 512 := by
            have h1 := H.out.2.1.nlen H.out.2.1.nam
            have h2 := H.out.2.1.cnt
            have h3 := H.out.2.1.lim
            omega
          have HMM := hid (And.intro hm hfl)
          clear hm hfl
          go_wp2_with (first
            | (go_at_call 28
               (with_reducible show Calls _ _ _ wr _)
               refine (strokes_any _ _ _ y8).mono ?_
               rintro e w9 ⟨rfl, e1⟩
               rw [e1]
               clear e1 w9)
            | (go_at_call 29
               (with_reducible show Calls _ _ _ wr _)
               refine (reads_any _ _ _ y10).mono ?_
               rintro e w9 ⟨rfl, e1⟩
               rw [e1]
               clear e1 w9)
            | (go_at_call 14
               refine (files_dk H.out.1 H.out.2.1).mono ?_
               rintro e w2 ⟨v2, rfl, hf2, hb2⟩
               obtain ⟨a1, k1, e9⟩ := hf2.shape
               rw [HMM.out.2] at e9
               subst e9
               have H2 := hid (And.intro hb2 hf2)
               clear hf2 hb2)
            | (go_at_call 26
               refine (list_on (H.out.1.below H2.out.1) H.out.2.1 ho).mono ?_
               rintro e w3 ⟨v3, rfl, hrow, hb3⟩
               rw [← HMM.out.1] at hrow
               obtain ⟨a2, k2, rfl⟩ := own_shape hrow
               have H3 := hid (And.intro (H2.out.1.trans (hb3.mono H2.out.1.size)) (And.intro (H2.out.2.below hb3) hrow))
               clear hb3 hrow)
            | (go_at_call 30
               refine (tell_dk (H.out.1.below H3.out.1) H.out.2.1 (by omega)).mono ?_
               rintro e w4 ⟨v4, rfl, ht4, hb4⟩
               have H4 := hid (And.intro (H3.out.1.trans (hb4.mono H3.out.1.size)) (And.intro (H3.out.2.1.below hb4) (ownsRow_kept H3.out.2.2 (Kept.ofBelow hb4) (fun _ _ e => e))))
               have y8' := ((H4.out.1).cell (World.block_lt_of_cell? _ _ y8)).trans y8
               have y10' := ((H4.out.1).cell (World.block_lt_of_cell? _ _ y10)).trans y10
               clear ht4 hb4)
            | (go_at_call 28
               (with_reducible show Calls _ _ _ w4 _)
               refine (strokes_any _ _ _ y8').mono ?_
               rintro e w9 ⟨rfl, e1⟩
               rw [e1]
               clear e1 w9)
            | (go_at_call 29
               (with_reducible show Calls _ _ _ w4 _)
               refine (reads_any _ _ _ y10').mono ?_
               rintro e w9 ⟨rfl, e1⟩
               rw [e1]
               clear e1 w9)
            | (go_at_call 16
               refine (off_dk (H.out.1.below H4.out.1)).mono ?_
               rw [ho]
               rintro e w5 ⟨rfl, hb5⟩
               have H5 := hid (And.intro (H4.out.1.trans (hb5.mono H4.out.1.size)) (And.intro (H4.out.2.1.below hb5) (ownsRow_kept H4.out.2.2 (Kept.ofBelow hb5) (fun _ _ e => e))))
               clear hb5)
            | (go_at_call 15
               refine (plan_dk (H.out.1.below H5.out.1) (.slice none 0 0) (.slice none 0 0) [] [] (rf_nil _ _) (rf_nil _ _) (by simp) (by simp) (by simp)).mono ?_
               rintro e w6 ⟨rfl, t6, hg6, hk6⟩
               obtain ⟨-, -, -, -, -, -, -, -, y8'', -, y10'', -⟩ := hg6.dk.disk.cells
               have H6 := hid (And.intro hg6 hk6)
               clear hg6 hk6)
            | (go_at_call 28
               (with_reducible show Calls _ _ _ w6 _)
               refine (strokes_any _ _ _ y8'').mono ?_
               rintro e w9 ⟨rfl, e1⟩
               rw [e1]
               clear e1 w9)
            | (go_at_call 29
               (with_reducible show Calls _ _ _ w6 _)
               refine (reads_any _ _ _ y10'').mono ?_
               rintro e w9 ⟨rfl, e1⟩
               rw [e1]
               clear e1 w9))
          have hfb : FbAt w6 wr.heap.size (.slice a1 m k1) (filesD D) := H5.out.2.1.kept H6.out.2 (fun q hq _ e => by omega)
          have hnr : w6.ownsRow wr.heap.size 9 1 (.slice a2 m k2) m ((skN D.names).map Value.string) := owns_base (ownsRow_kept H5.out.2.2 H6.out.2 (fun q e e2 => by have := (H5.out.2.2.lt q e).1; have := H2.out.1.size; omega)) (by have := H2.out.1.size; omega)
          have hb6 : Below w1.heap.size w1 w6 := (H.out.2.2.2.1.trans (H5.out.1.mono H.out.2.2.2.1.size)).trans (H6.out.2.below (Nat.le_trans H.out.2.2.2.1.size H5.out.1.size) (fun q hq e => by omega))
          have H7 := hid (And.intro hfb (And.intro hnr hb6))
          clear hfb hnr hb6 H2 H3 H4 H5 y8 y10 y8' y10' y8'' y10''
          go_loopw [14] (fun i ws => ∃ j : Nat, j ≤ m ∧ i = .int .i64 j ∧ Hid (DkT ws w1.heap.size t6 (rdD D j) ∧ Kept (fun q => q = w1.heap.size) w6 ws)) (fun i _ => m - (intOf i).toNat)
          case atStart => exact ⟨0, Nat.zero_le _, by go_num, hid ⟨H6.out.1.dk, Kept.refl _ _⟩⟩
          case round =>
            rename World => ws
            obtain ⟨j, hj, rfl, HJ⟩ := hrel
            obtain ⟨hdj, hkj⟩ := HJ.out
            obtain ⟨hfb, hnr, hb6⟩ := H7.out
            have hrz : w1.heap.size < wr.heap.size := hdl
            by_cases hjl : j < m
            · as_aux_lemma =>
              have i5 : (j : Int) < (m : Int) := by omega
              have hsl : (skN D.names).length = m := by rw [skN_len, HMM.out.1]
              have hsg : (skN D.names)[j]? = some ((skN D.names)[j]'(by omega)) := List.getElem?_eq_getElem _
              obtain ⟨mm, hlo1, hok1, hfa⟩ := filesD_at H.out.2.1 j _ hsg
              obtain ⟨nm, hnm⟩ : ∃ nm, nm = (skN D.names)[j]'(by omega) := ⟨_, rfl⟩
              rw [← hnm] at hsg hlo1 hok1 hfa
              have hrd := rdD_read H.out.2.1 ho j nm mm hlo1 hok1
              have hWj := rdD_WD H.out.2.1 j
              have hcall := read_dk hdj hWj (by omega) nm (by have := nm_size hok1; unfold maxLen; omega)
              rw [hrd] at hcall
              dsimp only at hcall
              have hpk : (rowN D mm).length ≤ 10000000 := by
                have h1 := szF_take (filesD D) j _ hfa
                have h2 := szF_take_le (filesD D) (j + 1)
                have h3 := files_sz H.out.2.1
                have h4 := H.out.2.1.hld
                have h5 := H.out.2.1.room
                have h6 : heldD D = (D.files.map Fi.peak).sum := rfl
                dsimp only at h1
                omega
              have hat : ∀ W', Kept (fun q => q = w1.heap.size) w6 W' → ∃ gl Y, a1 = some ⟨gl, 0, none⟩ ∧ W'.cell? ⟨gl, j * 2, none⟩ = some (.string nm) ∧ W'.cell? ⟨gl, j * 2 + 1, none⟩ = some (.slice (some ⟨Y, 0, none⟩) (rowN D mm).length (rowN D mm).length) ∧ Own W' Y (rowN D mm) := fun W' hk' => by
                have hfb' := hfb.kept hk' (fun q hq _ e => by omega)
                obtain ⟨gl, cl, e, hat⟩ := hfb'.at (by rw [HMM.out.2]; omega)
                rw [HMM.out.2] at e
                injection e with e _ _
                obtain ⟨Y, p1, p2, p3⟩ := hat j _ hfa
                exact ⟨gl, Y, e, p1, p2, p3⟩
              obtain ⟨gn, cn, e⟩ := own_some hnr (by omega)
              injection e with e _ e'
              subst e e'
              have p4 := hnr.cells (g := gn) rfl j (.string nm) (by rw [List.getElem?_map, hsg]; rfl)
              rw [add_lit, Nat.zero_add] at p4
              have hgn := (hnr.lt gn rfl).1
              have hnat : ∀ W', Kept (fun q => q = w1.heap.size) w6 W' → W'.cell? ⟨gn, j, none⟩ = some (.string nm) := fun W' hk' => hk'.cell p4 (by dsimp only; omega)
              have p5 := hnat ws hkj
              obtain ⟨rw9, hrw⟩ : ∃ r, r = rowN D mm := ⟨_, rfl⟩
              rw [← hrw] at hcall hpk
              simp only [← hrw] at hat
              have HC := hid hcall
              have HAT := hid (And.intro hat hnat)
              have HKJ := hid hkj
              clear hcall hrd hWj hfa hlo1 hok1 hsg hnm hsl hat hnat p4 hrw hdj hkj hfb hnr hb6 HJ
              go_wp2_with (
                go_at_call 27
                refine HC.out.mono ?_
                rintro e w8 ⟨v8, rfl, hnb, hd8, hk8⟩
                obtain ⟨a8, c8, e8, hs8⟩ := nb_sl hnb (by omega)
                subst e8
                have hk68 := HKJ.out.trans hk8 (fun _ _ e => e)
                obtain ⟨gl, Y, e9, p1, p2, p3⟩ := HAT.out.1 w8 hk68
                subst e9
                have p6 := HAT.out.2 w8 hk68
                obtain ⟨-, -, -, -, -, -, -, -, -, -, y10, -⟩ := hd8.disk.cells
                have H8 := hid (And.intro hd8 (And.intro hk68 (And.intro hs8 p3)))
                clear hnb hd8 hk8 hs8 hk68 p3)
              have y10' : w8.cell? ⟨w1.heap.size, 10, none⟩ = some (.int .i64 ((j : Int) + 1)) := by
                rw [y10]
                show some (Value.int .i64 (((j + 1 : Nat) : Int))) = _
                rw [Int.natCast_add]
                rfl
              have q1 : ∀ n, Calls Tryz.prog 31 #[.slice a8 rw9.length c8, .slice (some ⟨Y, 0, none⟩) rw9.length rw9.length] (w8.drewN n) fun e w' => e = .returned (.bool true) ∧ ∃ m, w' = (w8.drewN n).drewN m := fun n => by
                have s1 := H8.out.2.2.1.below (below_drewN (Below.refl _ w8) n)
                have s2 := (sl_of_owns (B := 0) (H8.out.2.2.2.owns (Nat.zero_le _) (by unfold maxLen; omega))).below (below_drewN (Below.refl _ w8) n)
                refine (bytes_any _ _ rw9 rw9 _ s1 s2 (by omega)).mono ?_
                rintro e w' ⟨⟨m, hm⟩, rfl⟩
                exact ⟨by simp, m, hm⟩
              have q2 : ∀ n, Calls Tryz.prog 29 #[.pointer (some ⟨w1.heap.size, 0, none⟩)] (w8.drewN n) fun x w' => x = .returned (.int .i64 ((j : Int) + 1)) ∧ w' = w8.drewN n := fun n => reads_any _ _ _ y10'
              have HQ := hid (And.intro q1 q2)
              have hne : (!(nm.toList == nm.toList)) = false := by simp
              clear q1 q2 y10 y10'
              go_quiet ((first
                | (go_at_call 31; exact Calls.quiet_of (HQ.out.1 _))
                | (go_at_call 29; exact Calls.quiet_of_same (HQ.out.2 _))))
              go_wp2
              go_roundw
              case rel =>
                obtain ⟨hd8, hk68, -⟩ := H8.out
                have hfin : ∀ q, Hid (DkT (w8.drewN q) w1.heap.size t6 (rdD D (j + 1)) ∧ Kept (fun q => q = w1.heap.size) w6 (w8.drewN q)) := fun q => hid ⟨hd8.below (below_drewN (Below.refl _ _) _), hk68.drewQ _⟩
                first | exact ⟨j + 1, by omega, by go_num, hfin _⟩ | ((repeat apply Exists.intro); exact ⟨⟨j + 1, by omega, by go_num, hfin _⟩, rfl⟩)
              case measure => simp [intOf]; omega
            · as_aux_lemma =>
              have i5 : ¬ (j : Int) < (m : Int) := by omega
              have hbs : Below w1.heap.size w1 ws := hb6.trans (hkj.below hb6.size (fun q hq e => by omega))
              have HBS := hid (HB.out.trans (hbs.mono HB.out.size))
              clear hdj hkj hfb hnr hb6 hbs HJ
              go_wp2_with (
                go_at_call 8
                refine (known_any ws).mono ?_
                rintro e w9 ⟨rfl, hb9⟩
                have H9 := hid hb9
                clear hb9)
              go_ret
              exact ⟨rfl, HBS.out.trans (H9.out.mono HBS.out.size)⟩
  · exact sees_no room most v xs w h hg

end Go.Proofs.YtlmompdfombgeabGreat

namespace Go.Proofs.YtlmompdfombgeabGreat
open Go.RowKit Go.MapKept

/-- What is told depends on the numbers that have names alone. -/
theorem toldN_congr {l : List (ByteArray × Int)} (hk : (l.map Prod.fst).Nodup) {c c' : Int → List Int} (h : ∀ x ∈ l, c x.2 = c' x.2) : toldN l c = toldN l c' := by
  unfold toldN
  refine List.map_congr_left fun nm hnm => ?_
  obtain ⟨x, hx, rfl⟩ := List.mem_map.1 ((skN_perm l).mem_iff.1 hnm)
  rw [lo_of_mem hk hx]
  exact congrArg (Prod.mk x.1) (h x hx)

theorem loseAll_none (fs : List Bool) (hf : ∀ i : Nat, fs[i]? ≠ some true) : ∀ (lost xs : List Int), loseAll fs lost xs = xs
  | [], _ => rfl
  | v :: l, xs => by
    show loseAll fs l (loseS fs xs _) = xs
    have e : ∀ s, loseS fs xs s = xs := fun s => by
      unfold loseS loseTo
      apply List.ext_getElem?
      intro i
      rw [List.getElem?_mapIdx]
      cases xs[i]? with
      | none => rfl
      | some y =>
        simp only [Option.map_some, Option.some.injEq]
        exact if_neg (fun h => hf i h.2.2)
    rw [e]
    exact loseAll_none fs hf l xs

section
variable {D : Dq} {n : Nat}

theorem firstN_zero (m : Nat) : firstN 0 m = 0 := by simp [firstN]

/-- What a crash leaves of a file of a number. -/
theorem crashed_safN (h : WD n D) (pn : Int) (pks : List (Int × List Int)) {x : ByteArray × Int} (hx : x ∈ crashNm pn D) : ∃ i f, D.files[i]? = some f ∧ f.no = x.2 ∧ safN (crashP pn pks D).2 x.2 = (crashF (pkAt pks i) f).safe ∧ wholeN pks D x.2 = (wholeF (pkAt pks i).1 f).1 := by
  have hnok : NOK D.files (crashNm pn D) := h.saf _
  obtain ⟨f, hf, ef⟩ := List.mem_map.1 (hnok.l x hx)
  obtain ⟨i, hi⟩ := List.mem_iff_getElem?.1 hf
  have hil := (List.getElem?_eq_some_iff.1 hi).1
  refine ⟨i, f, hi, ef, ?_, ?_⟩
  · have hW' := h.crashP pn pks
    have hm : crashF (pkAt pks i) f ∈ (crashP pn pks D).2.files := by
      refine mem_liveF.2 ⟨List.mem_of_getElem? (crashTo_done pks D.files.length D.files i f hi hil), ?_⟩
      show f.no ∈ _
      rw [ef]
      exact List.mem_map.2 ⟨x, hx, rfl⟩
    have := safN_self hW' hm
    rw [← ef]
    exact this
  · rw [← ef]
    exact wholeN_at pks D h.nd i f hi

/-- A crash of zero picks leaves just what is safe. -/
theorem crash_zero (h : WD n D) : (crashP 0 [] D).1 = safeD D ∧ filesD (crashP 0 [] D).2 = safeD D ∧ safeD (crashP 0 [] D).2 = safeD D := by
  have e0 : crashNm 0 D = D.safeN := by
    unfold crashNm
    rw [firstN_zero]
    rfl
  have hw : ∀ f : Fi, wholeF 0 f = (f.safe, List.replicate f.safe.length false) := fun f => by
    unfold wholeF
    rw [firstN_zero]
    rfl
  have hp : ∀ i, pkAt [] i = (0, []) := fun i => by simp [pkAt]
  have key : ∀ x ∈ D.safeN, safN (crashP 0 [] D).2 x.2 = safN D x.2 ∧ wholeN [] D x.2 = safN D x.2 := fun x hx => by
    obtain ⟨i, f, hi, ef, a, b⟩ := crashed_safN h 0 [] (x := x) (by rw [e0]; exact hx)
    have hs : safN D x.2 = f.safe := by rw [← ef]; exact safN_self h (List.mem_of_getElem? hi)
    rw [a, b, hs, hp]
    constructor
    · show loseAll (wholeF 0 f).2 [] (wholeF 0 f).1 = f.safe
      rw [hw]
      rfl
    · rw [hw]
  have h1 : (crashP 0 [] D).1 = safeD D := by
    show toldN (crashNm 0 D) (wholeN [] D) = toldN D.safeN (safN D)
    rw [e0]
    exact toldN_congr h.safe0.k (fun x hx => (key x hx).2)
  have h2 : safeD (crashP 0 [] D).2 = safeD D := by
    show toldN (crashNm 0 D) (safN (crashP 0 [] D).2) = toldN D.safeN (safN D)
    rw [e0]
    exact toldN_congr h.safe0.k (fun x hx => (key x hx).1)
  exact ⟨h1, by rw [(calm_crash (D := D) 0 []).same, h2], h2⟩

/-- A crash of a calm disk changes no file, whatever is picked. -/
theorem crash_calm (h : WD n D) (hc : Calm D) (pn : Int) (pks : List (Int × List Int)) : (crashP pn pks D).1 = filesD D ∧ filesD (crashP pn pks D).2 = filesD D ∧ safeD (crashP pn pks D).2 = filesD D := by
  have e0 : crashNm pn D = D.safeN := by
    unfold crashNm Dq.namesAt
    rw [hc.t, List.take_nil]
    rfl
  have hw : ∀ f ∈ D.files, ∀ dn, wholeF dn f = (f.safe, List.replicate f.safe.length false) := fun f hf dn => by
    unfold wholeF
    rw [hc.c f hf, List.take_nil]
    rfl
  have key : ∀ x ∈ D.safeN, safN (crashP pn pks D).2 x.2 = safN D x.2 ∧ wholeN pks D x.2 = safN D x.2 := fun x hx => by
    obtain ⟨i, f, hi, ef, a, b⟩ := crashed_safN h pn pks (x := x) (by rw [e0]; exact hx)
    have hfm := List.mem_of_getElem? hi
    have hs : safN D x.2 = f.safe := by rw [← ef]; exact safN_self h hfm
    rw [a, b, hs]
    constructor
    · show loseAll (wholeF (pkAt pks i).1 f).2 (pkAt pks i).2 (wholeF (pkAt pks i).1 f).1 = f.safe
      rw [hw f hfm]
      refine loseAll_none _ (fun j e => ?_) _ _
      rw [List.getElem?_replicate] at e
      split at e <;> simp at e
    · rw [hw f hfm]
  have h1 : (crashP pn pks D).1 = safeD D := by
    show toldN (crashNm pn D) (wholeN pks D) = toldN D.safeN (safN D)
    rw [e0]
    exact toldN_congr h.safe0.k (fun x hx => (key x hx).2)
  have h2 : safeD (crashP pn pks D).2 = safeD D := by
    show toldN (crashNm pn D) (safN (crashP pn pks D).2) = toldN D.safeN (safN D)
    rw [e0]
    exact toldN_congr h.safe0.k (fun x hx => (key x hx).1)
  rw [hc.same]
  exact ⟨h1, by rw [(calm_crash (D := D) pn pks).same, h2], h2⟩

end
end Go.Proofs.YtlmompdfombgeabGreat
