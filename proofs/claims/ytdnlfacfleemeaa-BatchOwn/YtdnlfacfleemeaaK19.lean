import Derived.Test.YtdnlfacfleemeaaK18
import Derived.Test.YtdnlfacfleemeaaK13
namespace Go.Proofs.Ytdnlfacfleemeaa
open Go.RowKit Go.Lib

set_option maxRecDepth 100000 in
set_option maxHeartbeats 8000000 in
theorem btake_any (v : Value) (bs : List Int) (w : World) (h : Sl w v bs) (ho : Oct bs) (hl : bs.length ≤ 1000000000) :
    Calls Try.prog 21 #[v] w (TKB w (tkBat bs)) := by
  have HRD := hid (read_any v bs (w.alloc (bo 0 (.slice none 0 0))) (h.below (below1 w _)) ho hl)
  obtain ⟨ao, cap, rfl, hcap, -⟩ := h
  have HN := hid (fun (p : Nat) W (hr : Rd W p (some (w.heap.size + 1)) bs 0 0) => snum_any p bs.length (some (w.heap.size + 1)) bs 0 W hr)
  unfold rdX at HN
  unfold tkBat
  obtain ⟨⟨⟨u1, t1⟩, a1, e1⟩, ht1⟩ : ∃ t, takeZ 1 0 bs 0 0 = t := ⟨_, rfl⟩
  rw [ht1] at HN ⊢
  dsimp only at HN ⊢
  clear ht1
  by_cases he1 : e1 = 0
  · subst he1
    rw [if_pos rfl] at HN ⊢
    unfold SP at HN
    dsimp only at HN
    have HC := hid (fun (p : Nat) W (hr : Rd W p (some (w.heap.size + 1)) bs a1 0) => scount_any p bs.length 64 1 (some (w.heap.size + 1)) bs a1 W hr)
    unfold cntX at HC
    unfold tkBatN
    have bd := takeZ_bd 1 0 bs a1 0 ho
    obtain ⟨⟨⟨u2, t2⟩, a2, e2⟩, ht2⟩ : ∃ t, takeZ 1 0 bs a1 0 = t := ⟨_, rfl⟩
    rw [ht2] at HC bd ⊢
    dsimp only at HC bd ⊢
    have hu0 : 0 ≤ u2 := bd.1
    clear bd ht2 ho
    by_cases he2 : e2 = 0
    · subst he2
      rw [if_pos rfl] at HC ⊢
      by_cases h64 : u2 ≤ 64
      · rw [if_pos h64] at HC ⊢
        unfold SP at HC
        dsimp only at HC
        obtain ⟨N, rfl⟩ : ∃ N : Nat, u2 = N := ⟨u2.toNat, by omega⟩
        have hN : N ≤ 64 := by omega
        rw [Int.toNat_natCast]
        obtain ⟨Z, hZ⟩ : ∃ Z, Z = tkBEnd bs u1 (tkTs bs N a2) := ⟨_, rfl⟩
        have HZ := hid hZ
        rw [← hZ]
        clear hZ h64 hu0
        go_enter Try.func21, Try.ntmps21
        go_upto_region 4 with (first
          | (go_at_call 33
             refine HRD.out.mono ?_
             rintro e w1 ⟨p, rfl, hp, hr, hb⟩
             have H1 := hid (ta_start (o := so p bs.length) rfl hp hr hb)
             have HNp := hid (HN.out p)
             obtain ⟨p0, p1, -⟩ := vfacts2 (heap_alloc_new w1 (so p bs.length))
             clear hp hr hb)
          | (go_at_call 34
             refine (HNp.out _ H1.out.rd).mono ?_
             rintro e w2 ⟨h2, rfl, h3⟩
             have H2 := hid (tq_start (H1.out.read h2 h3) (bo u1 (.slice none 0 0)))
             obtain ⟨p0, p1, -⟩ := vfacts2 H2.out.ta.r1
             have HCp := hid (HC.out p)
             clear h2 h3)
          | (go_at_call 35
             refine (HCp.out _ H2.out.ta.rd).mono ?_
             rintro e w3 ⟨h4, rfl, h5⟩
             have H3 := hid (H2.out.read h4 h5)
             have hmk := make30 N hN w3
             have H4 := hid (tb_start (N := N) H3.out)
             obtain ⟨q0, q1, qz⟩ := vfacts2 (H3.out.below (below1 w3 (.cells (madeCells tCells (N * 6)) 30))).r2
             have hq2 := lt_of H3.out.r2
             clear h4 h5))
        refine cutG (fun W => Tb w W p bs a2 w1.heap.size w2.heap.size w3.heap.size N u1 []) H4.out ?_
        intro W0 H6
        have H6 := hid H6
        obtain ⟨s, hs⟩ : ∃ s, s = w1.heap.size := ⟨_, rfl⟩
        obtain ⟨q, hq⟩ : ∃ q, q = w2.heap.size := ⟨_, rfl⟩
        obtain ⟨tb, htb⟩ : ∃ tb, tb = w3.heap.size := ⟨_, rfl⟩
        rw [← hs, ← hq, ← htb] at H6
        rw [← hs, ← hq]
        clear H1 H2 H3 H4 HNp HCp HN HC q0 q1 qz hq2 hmk p0 p1
        obtain ⟨q0, q1, qz⟩ := vfacts2 H6.out.tq.r2
        clear hs hq htb
        go_wp2
        go_loopw [21] (fun ix wr => ∃ (m : Nat) (ys : List Txd) (b : Nat), m ≤ N ∧ ix = .int .i64 m ∧ ys.length = m ∧ Hid (Tb w wr p bs b s q tb N u1 ys) ∧ Hid (preT ys (tkTs bs (N - m) b) = tkTs bs N a2)) (fun ix _ => N - (intOf ix).toNat)
        case atStart =>
          refine ⟨0, [], a2, Nat.zero_le _, rfl, rfl, H6, hid ?_⟩
          rw [Nat.sub_zero]
          cases tkTs bs N a2 with
          | error E => rfl
          | ok r => rfl
        case round =>
          clear H6 q0 q1 qz
          obtain ⟨m, ys, b, hm, rfl, hys, hT, hK⟩ := hrel
          obtain ⟨q0, q1, qz⟩ := vfacts2 hT.out.tq.r2
          obtain ⟨p0, p1, pz⟩ := vfacts2 hT.out.tq.ta.r1
          by_cases hlt : m < N
          · have hlt' : (m : Int) < (N : Int) := by omega
            have HV := hid (fun W (hW : Tb w W p bs b s q tb N u1 ys) => txn_any p (some (w.heap.size + 1)) bs b W hW.tq.ta.rd (fun k hk => by have h1 := hW.tq.ta.lp; have h2 := hW.tq.ta.rd.plt; injection hk; omega))
            have hsub : N - m = (N - (m + 1)) + 1 := by omega
            rw [hsub] at hK
            clear hsub
            cases hv : tkTx bs b with
            | error E =>
              rw [hv] at HV
              unfold TXP at HV
              dsimp only at HV
              have hk2 := hK.out
              rw [preT_no bs _ _ _ E hv] at hk2
              have HK2 := hid hk2
              clear hk2 hK hv
              go_upto_region 7 with fail
              go_region_dies
              all_goals (
                refine (HV.out _ (hT.out.below (below_drew wr))).mono ?_
                rintro e w7 ⟨h7, rfl⟩
                refine ⟨rfl, ?_⟩
                rw [HZ.out, ← HK2.out]
                exact ⟨(hT.out.below (below_drew wr)).tq.ta.errs h7, rfl⟩)
            | ok r =>
              obtain ⟨t, b2⟩ := r
              rw [hv] at HV
              unfold TXP at HV
              dsimp only at HV
              have hk2 := hK.out
              rw [preT_ok bs _ _ _ t b2 hv] at hk2
              have HK2 := hid hk2
              clear hk2 hK hv
              go_upto_region 7 with fail
              have lt1 := hT.out.lt
              have lt2 := hT.out.tq.lq
              have nq : tb ≠ q := by omega
              have ns : tb ≠ s := by omega
              clear lt1 lt2
              go_region_with (first
                | (go_at_call 36
                   refine (HV.out _ (hT.out.below (below_drew _))).mono ?_
                   rintro e w7 ⟨h7, S1, S2, rfl, h8, h9, h10⟩
                   have H7 := hid ((hT.out.below (below_drew wr)).read h7 h10)
                   have HS := hid (And.intro (h8.mono (B' := tb + 1) (by obtain ⟨cs, hcs⟩ := hT.out.bk; exact lt_of hcs)) (h9.mono (B' := tb + 1) (by obtain ⟨cs, hcs⟩ := hT.out.bk; exact lt_of hcs)))
                   obtain ⟨a1', c1', rfl⟩ := h8.form
                   obtain ⟨a2', c2', rfl⟩ := h9.form
                   obtain ⟨q0, q1, qz⟩ := vfacts2 H7.out.tq.r2
                   obtain ⟨p0, p1, pz⟩ := vfacts2 H7.out.tq.ta.r1
                   obtain ⟨v0, v1, v2, v3, v4, v5⟩ := H7.out.c2 m (by omega) hlt
                   have vz : ∀ o, w7.frozen? ⟨tb, o, none⟩ = false := fun o => by obtain ⟨cs, hcs⟩ := H7.out.bk; simp [World.frozen?, hcs]
                   clear h7 h8 h9 h10))
              all_goals (
                have HF := hid (H7.out.set (by omega) t _ _ HS.out.1 HS.out.2)
                rw [hys] at HF
                refine cutG (fun W => Tb w W p bs b2 s q tb N u1 (ys ++ [t])) HF.out ?_
                intro W8 H8
                have H8 := hid H8
                clear HF H7 HS q0 q1 qz p0 p1 pz v0 v1 v2 v3 v4 v5 vz
                go_wp2
                go_roundw
                case rel => exact ⟨m + 1, ys ++ [t], b2, by omega, by go_num, by simp [hys], H8, HK2⟩
                case measure => simp [intOf]; omega)
          · have hmN : m = N := by omega
            have hk2 := hK.out
            rw [hmN, Nat.sub_self, tkTs] at hk2
            have HK2 := hid hk2
            have HNN := hid (hys.trans hmN)
            clear hk2 hK hys
            have hd4 : decide ((m : Int) < (N : Int)) = false := by simp; omega
            clear hmN
            have HEn := hid (end_any p (some (w.heap.size + 1)) bs b 0 wr hT.out.tq.ta.rd)
            have HZ2 : Hid (Z = if endZ bs.length b 0 = 0 then .ok (u1, ys) else .error (endZ bs.length b 0)) := hid (by
              rw [HZ.out, ← HK2.out]
              simp [preT, tkBEnd])
            generalize endZ bs.length b 0 = E at *
            by_cases hE : E = 0
            · subst hE
              rw [if_pos rfl] at HZ2
              go_upto_region 10 with (first
                | (go_at_call 37
                   refine HEn.out.mono ?_
                   rintro e w8 ⟨⟨nq, e8⟩, rfl⟩
                   have H8 := hid (hT.out.below (show Below wr.heap.size wr w8 by rw [e8]; exact ⟨rfl, rfl, rfl, Nat.le_refl _, fun _ _ => rfl⟩))
                   clear e8 nq
                   dsimp only)
                | (go_at_call 22; refine (binsist_ok _).mono ?_; rintro e w9 ⟨rfl, e9⟩; rw [e9]; clear e9 w9))
              obtain ⟨q0, q1, qz⟩ := vfacts2 H8.out.tq.r2
              obtain ⟨r0, r1, rz⟩ := vfacts2 H8.out.tq.ta.r0
              have hl1 := H8.out.tq.ta.lp
              have hl2 := H8.out.tq.ta.ls
              have hl3 := H8.out.tq.lq
              go_wp2
              obtain ⟨f1, f2⟩ := H8.out.fin HNN.out
              refine bodyPost_ret (retB Try.results21 rfl f1) rfl ?_
              rw [HZ2.out]
              exact f2
            · rw [if_neg hE] at HZ2
              go_wp2_with (first
                | (go_at_call 37
                   refine HEn.out.mono ?_
                   rintro e w8 ⟨⟨nq, e8⟩, rfl⟩
                   have H8 := hid (hT.out.below (show Below wr.heap.size wr w8 by rw [e8]; exact ⟨rfl, rfl, rfl, Nat.le_refl _, fun _ _ => rfl⟩))
                   clear e8 nq
                   dsimp only)
                | (go_at_call 22; refine (binsist_no E hE _).mono ?_; rintro e w9 ⟨rfl, e9⟩; rw [e9]; clear e9 w9))
              refine ⟨rfl, ?_⟩
              rw [HZ2.out]
              exact ⟨H8.out.tq.ta.hb, rfl⟩
      · rw [if_neg h64] at HC ⊢
        unfold SP at HC
        unfold TKB
        dsimp only at HC ⊢
        clear h64 hu0
        go_enter Try.func21, Try.ntmps21
        go_wp2_with (first
          | (go_at_call 33
             refine HRD.out.mono ?_
             rintro e w1 ⟨p, rfl, hp, hr, hb⟩
             have H1 := hid (ta_start (o := so p bs.length) rfl hp hr hb)
             have HNp := hid (HN.out p)
             obtain ⟨p0, p1, -⟩ := vfacts2 (heap_alloc_new w1 (so p bs.length))
             clear hp hr hb)
          | (go_at_call 34
             refine (HNp.out _ H1.out.rd).mono ?_
             rintro e w2 ⟨h2, rfl, h3⟩
             have H2 := hid (tq_start (H1.out.read h2 h3) (bo u1 (.slice none 0 0)))
             obtain ⟨p0, p1, -⟩ := vfacts2 H2.out.ta.r1
             have HCp := hid (HC.out p)
             clear h2 h3)
          | (go_at_call 35
             refine (HCp.out _ H2.out.ta.rd).mono ?_
             rintro e w3 ⟨h4, rfl⟩
             have H3 := hid (H2.out.ta.errs h4)
             clear h4))
        exact ⟨rfl, H3.out, rfl⟩
    · rw [if_neg he2] at HC ⊢
      unfold SP at HC
      unfold TKB
      dsimp only at HC ⊢
      clear hu0
      go_enter Try.func21, Try.ntmps21
      go_wp2_with (first
        | (go_at_call 33
           refine HRD.out.mono ?_
           rintro e w1 ⟨p, rfl, hp, hr, hb⟩
           have H1 := hid (ta_start (o := so p bs.length) rfl hp hr hb)
           have HNp := hid (HN.out p)
           obtain ⟨p0, p1, -⟩ := vfacts2 (heap_alloc_new w1 (so p bs.length))
           clear hp hr hb)
        | (go_at_call 34
           refine (HNp.out _ H1.out.rd).mono ?_
           rintro e w2 ⟨h2, rfl, h3⟩
           have H2 := hid (tq_start (H1.out.read h2 h3) (bo u1 (.slice none 0 0)))
           obtain ⟨p0, p1, -⟩ := vfacts2 H2.out.ta.r1
           have HCp := hid (HC.out p)
           clear h2 h3)
        | (go_at_call 35
           refine (HCp.out _ H2.out.ta.rd).mono ?_
           rintro e w3 ⟨h4, rfl⟩
           have H3 := hid (H2.out.ta.errs h4)
           clear h4))
      exact ⟨rfl, H3.out, rfl⟩
  · rw [if_neg he1] at HN ⊢
    unfold SP at HN
    unfold TKB
    dsimp only at HN ⊢
    clear ho
    go_enter Try.func21, Try.ntmps21
    go_wp2_with (first
      | (go_at_call 33
         refine HRD.out.mono ?_
         rintro e w1 ⟨p, rfl, hp, hr, hb⟩
         have H1 := hid (ta_start (o := so p bs.length) rfl hp hr hb)
         have HNp := hid (HN.out p)
         obtain ⟨p0, p1, -⟩ := vfacts2 (heap_alloc_new w1 (so p bs.length))
         clear hp hr hb)
      | (go_at_call 34
         refine (HNp.out _ H1.out.rd).mono ?_
         rintro e w2 ⟨h2, rfl⟩
         have H2 := hid (H1.out.errs h2)
         clear h2))
    exact ⟨rfl, H2.out, rfl⟩

end Go.Proofs.Ytdnlfacfleemeaa

namespace Go.Proofs.Ytdnlfacfleemeaa
open Go.RowKit Go.Lib

theorem beqRef (E : Int) (w : World) : (binOp BinOp.eql 20 (.iface 65 (.agg #[.int .i64 E])) .nilIface).run Try.prog w = .ok (.bool false) w := by kernel_rfl
theorem btaRef (v : Value) (w : World) : (Instr.typeAssert (.iface 65 v) 20 65 true).run Try.prog w = .ok (.tuple #[v, .bool true]) w := by kernel_rfl

set_option maxRecDepth 100000 in
theorem bcatch_idle (p q : Addr) (w : World) :
    CallsD Try.prog 20 #[.pointer (some p), .pointer (some q)] .returning w fun e u' w' => e = .returned (.tuple #[]) ∧ u' = .returning ∧ w' = w := by
  have h1 := eqNil
  refine callsD_of_wpS Try.func20 rfl fun c₀ cs hu => ?_
  apply wpS_seq
  apply wpS_region
  simp [wpOpsS, go_sem, recoverD, hu, Try.ntmps20, Exit.thenS]
  refine wpS_of_wp ?_
  go_wp2
  cases c₀
  simp_all [bodyPostS, results, Try.results20]

theorem bref_fin {w : World} {r2 r3 : Nat} {f : Int} {S : Value} {x : Int} (h2 : w.heap[r2]? = some (bo f S)) (h3 : w.heap[r3]? = some (.cells #[.int .i64 x] 32 (0, 0))) (hne : r2 ≠ r3) (E : Int) :
    (((((w.setCell ⟨r2, 0, none⟩ (.int .i64 0)).setCell ⟨r2, 1, none⟩ (.slice none 0 0)).setCell ⟨r3, 0, none⟩ (.int .i64 E)).alloc (.cells #[.int .i64 E] 65)).drew).heap[r2]? = some (bo 0 (.slice none 0 0)) ∧ (((((w.setCell ⟨r2, 0, none⟩ (.int .i64 0)).setCell ⟨r2, 1, none⟩ (.slice none 0 0)).setCell ⟨r3, 0, none⟩ (.int .i64 E)).alloc (.cells #[.int .i64 E] 65)).drew).heap[r3]? = some (.cells #[.int .i64 E] 32 (0, 0)) ∧ Kept (fun k => k = r2 ∨ k = r3) w (((((w.setCell ⟨r2, 0, none⟩ (.int .i64 0)).setCell ⟨r2, 1, none⟩ (.slice none 0 0)).setCell ⟨r3, 0, none⟩ (.int .i64 E)).alloc (.cells #[.int .i64 E] 65)).drew) := by
  have k : Kept (fun k => k = r2 ∨ k = r3) w (((w.setCell ⟨r2, 0, none⟩ (.int .i64 0)).setCell ⟨r2, 1, none⟩ (.slice none 0 0)).setCell ⟨r3, 0, none⟩ (.int .i64 E)) :=
    (((Kept.refl (fun k => k = r2 ∨ k = r3) w).setCell (p := ⟨r2, 0, none⟩) (fun _ => .inl rfl) _).setCell (p := ⟨r2, 1, none⟩) (fun _ => .inl rfl) _).setCell (p := ⟨r3, 0, none⟩) (fun _ => .inr rfl) _
  have b0 : ((w.setCell ⟨r2, 0, none⟩ (.int .i64 0)).setCell ⟨r2, 1, none⟩ (.slice none 0 0)).heap[r2]? = some (bo 0 (.slice none 0 0)) := by simp [World.setCell, Array.getElem?_modify, h2]
  have b2 : (((w.setCell ⟨r2, 0, none⟩ (.int .i64 0)).setCell ⟨r2, 1, none⟩ (.slice none 0 0)).setCell ⟨r3, 0, none⟩ (.int .i64 E)).heap[r2]? = some (bo 0 (.slice none 0 0)) := (Below.heap_setCell _ _ _ _ hne).trans b0
  have b3 : (((w.setCell ⟨r2, 0, none⟩ (.int .i64 0)).setCell ⟨r2, 1, none⟩ (.slice none 0 0)).setCell ⟨r3, 0, none⟩ (.int .i64 E)).heap[r3]? = some (.cells #[.int .i64 E] 32 (0, 0)) := by
    have e : ((w.setCell ⟨r2, 0, none⟩ (.int .i64 0)).setCell ⟨r2, 1, none⟩ (.slice none 0 0)).heap[r3]? = some (.cells #[.int .i64 x] 32 (0, 0)) :=
      (Below.heap_setCell _ _ _ _ hne.symm).trans ((Below.heap_setCell _ _ _ _ hne.symm).trans h3)
    generalize ((w.setCell ⟨r2, 0, none⟩ (.int .i64 0)).setCell ⟨r2, 1, none⟩ (.slice none 0 0)) = W at e
    simp [World.setCell, Array.getElem?_modify, e]
  exact ⟨(Below.heap_alloc _ _ _ (lt_of b2)).trans b2, (Below.heap_alloc _ _ _ (lt_of b3)).trans b3, (k.alloc _).drew⟩

set_option maxRecDepth 100000 in
set_option maxHeartbeats 4000000 in
theorem bcatch_ref (r3 r2 : Nat) (f : Int) (S : Value) (x E : Int) (w : World) (h2 : w.heap[r2]? = some (bo f S)) (h3 : w.heap[r3]? = some (.cells #[.int .i64 x] 32 (0, 0))) :
    CallsD Try.prog 20 #[.pointer (some ⟨r2, 0, none⟩), .pointer (some ⟨r3, 0, none⟩)] (.panicking [{ v := .iface 65 (.agg #[.int .i64 E]), recovered := false }]) w fun e u' w' =>
      e = .returned (.tuple #[]) ∧ u' = .panicking [{ v := .iface 65 (.agg #[.int .i64 E]), recovered := true }] ∧ w'.heap[r2]? = some (bo 0 (.slice none 0 0)) ∧ w'.heap[r3]? = some (.cells #[.int .i64 E] 32 (0, 0)) ∧ Kept (fun k => k = r2 ∨ k = r3) w w' := by
  have h1 := beqRef E
  have h4 := btaRef
  obtain ⟨c0, c1, cz⟩ := vfacts2 h2
  have d0 : w.cell? ⟨r3, 0, none⟩ = some (.int .i64 x) := by rw [cell_of_row w _ _ _ _ _ h3]; rfl
  have dz : ∀ o, w.frozen? ⟨r3, o, none⟩ = false := fun o => by simp [World.frozen?, h3]
  have k2 := lt_of h2
  have k3 := lt_of h3
  have hne : r2 ≠ r3 := by
    intro e
    rw [e, h3] at h2
    simp at h2
  have H2 := hid h2
  have H3 := hid h3
  clear h2 h3
  refine callsD_of_wpS Try.func20 rfl fun c₀ cs hu => ?_
  apply wpS_seq
  apply wpS_region
  simp [wpOpsS, go_sem, recoverD, hu, Try.ntmps20, Exit.thenS]
  refine wpS_of_wp ?_
  have hT : (#[Value.pointer (some ⟨r2, 0, none⟩), Value.pointer (some ⟨r3, 0, none⟩)] ++ (Array.replicate 12 undef).setIfInBounds 3 (Value.iface 65 (.agg #[.int .i64 E]))) =
    #[Value.pointer (some ⟨r2, 0, none⟩), Value.pointer (some ⟨r3, 0, none⟩), undef, undef, undef, Value.iface 65 (.agg #[.int .i64 E]), undef, undef, undef, undef, undef, undef, undef, undef] := rfl
  rw [hT]
  clear hT
  refine Code.wp_mono NoPanic.imp ?_
  go_wp2
  go_region
  have HF := bref_fin H2.out H3.out hne E
  refine NoPanic.normal (NoPanic.normal ?_)
  exact ⟨rfl, _, rfl, .tuple #[], by simp [results, Try.results20], rfl, rfl, HF⟩

/-- What Decode leaves. -/
def DB (w : World) (r : Except Int (Int × List Txd)) (e : Ending) (w' : World) : Prop :=
  Below w.heap.size w w' ∧ match r with
  | .ok (f, ts) => ∃ S, e = .returned (.tuple #[.agg #[.int .i64 f, S], .int .i64 0]) ∧ TsAt w.heap.size w' S ts
  | .error E => e = .returned (.tuple #[.agg #[.int .i64 0, .slice none 0 0], .int .i64 E])

theorem bdoor {w w1 : World} (hb : Below ((w.alloc (bo 0 (.slice none 0 0))).alloc (.cells #[.int .i64 0] 32)).heap.size ((w.alloc (bo 0 (.slice none 0 0))).alloc (.cells #[.int .i64 0] 32)) w1) :
    w1.heap[w.heap.size]? = some (bo 0 (.slice none 0 0)) ∧ w1.heap[w.heap.size + 1]? = some (.cells #[.int .i64 0] 32 (0, 0)) ∧ Below w.heap.size w w1 :=
  ⟨blk_of hb (two1 w _ _) (by simp; omega), blk_of hb (two2 w _ _) (by simp), below_on (below2 w _ _) hb⟩

set_option maxRecDepth 100000 in
theorem bload32 {w : World} {r : Nat} {E : Int} (hb : w.heap[r]? = some (.cells #[.int .i64 E] 32 (0, 0))) : (loadVar 32 ⟨r, 0, none⟩).run Try.prog w = .ok (.int .i64 E) w := by
  have c0 : w.cell? ⟨r, 0, none⟩ = some (.int .i64 E) := by rw [cell_of_row w _ _ _ _ _ hb]; rfl
  simp [go_sem, c0]

set_option maxRecDepth 100000 in
theorem ret10 {tmps : Array Value} {w : World} {r2 r3 : Nat} {a b : Value} {E : Int} (h2 : w.heap[r2]? = some (.cells #[a, b] 24 (0, 0))) (h3 : w.heap[r3]? = some (.cells #[.int .i64 E] 32 (0, 0)))
    (ht2 : tmps.getD 2 undef = .pointer (some ⟨r2, 0, none⟩) := by rfl) (ht3 : tmps.getD 3 undef = .pointer (some ⟨r3, 0, none⟩) := by rfl) :
    (results Try.f10 tmps).run Try.prog w = .ok (.tuple #[.agg #[a, b], .int .i64 E]) w := by
  simp only [Array.getD_eq_getD_getElem?] at ht2 ht3
  simp only [results, Try.results10]
  simp [ht2, ht3, loadB h2, bload32 h3, asAddr]

set_option maxRecDepth 100000 in
set_option maxHeartbeats 4000000 in
theorem bdecode_long (v : Value) (bs : List Int) (w : World) (h : Sl w v bs) (hlen : 65536 < bs.length) : Calls Try.prog 10 #[v] w (DB w (.error 4)) := by
  have H1 := hid (bdoor (Below.refl _ ((w.alloc (bo 0 (.slice none 0 0))).alloc (.cells #[.int .i64 0] 32))))
  obtain ⟨ao, cap, rfl, -, -⟩ := h
  have hmf : ∀ (fn : Fn) (first cap : Array Value) (w : World), (Instr.makeFunc fn first cap).run Try.prog w = .ok (.func fn first cap) w := fun _ _ _ _ => rfl
  have hl' : (65536 : Int) < (bs.length : Int) := by omega
  unfold DB
  dsimp only
  clear hlen
  go_enter_defers Try.func10, Try.ntmps10
  go_wp2
  refine leaves_cons (f := 20) (args := #[.pointer (some ⟨w.heap.size, 0, none⟩), .pointer (some ⟨w.heap.size + 1, 0, none⟩)]) (by simp) (by simp [go_sem]) ?_
  refine (bcatch_ref (w.heap.size + 1) w.heap.size 0 (.slice none 0 0) 0 4 _ H1.out.1 H1.out.2.1).mono ?_
  rintro e u' w2 ⟨rfl, rfl, h2, h3, hk⟩
  exact ⟨_, ret10 h2 h3, H1.out.2.2.trans (hk.below H1.out.2.2.size (fun k h1 h2 => by omega)), rfl⟩

set_option maxRecDepth 100000 in
set_option maxHeartbeats 4000000 in
theorem bdecode_take_no (v : Value) (bs : List Int) (w : World) (h : Sl w v bs) (ho : Oct bs) (hl : bs.length ≤ 65536) (E : Int) (hE : tkBat bs = .error E) : Calls Try.prog 10 #[v] w (DB w (.error E)) := by
  have HT := hid (fun W (hW : Sl W v bs) => btake_any v bs W hW ho (by omega))
  rw [hE] at HT
  unfold TKB at HT
  dsimp only at HT
  have HH := hid h
  obtain ⟨ao, cap, rfl, -, -⟩ := h
  have hmf : ∀ (fn : Fn) (first cap : Array Value) (w : World), (Instr.makeFunc fn first cap).run Try.prog w = .ok (.func fn first cap) w := fun _ _ _ _ => rfl
  have hl' : decide ((65536 : Int) < (bs.length : Int)) = false := by simp; omega
  unfold DB
  dsimp only
  clear hl hE
  go_enter_defers Try.func10, Try.ntmps10
  go_wp2_with (first
    | (go_at_call 21
       refine (HT.out _ (HH.out.below (below2 w _ _))).mono ?_
       rintro e w1 ⟨hb1, rfl⟩
       have H1 := hid (bdoor hb1)
       clear hb1))
  refine leaves_cons (f := 20) (args := #[.pointer (some ⟨w.heap.size, 0, none⟩), .pointer (some ⟨w.heap.size + 1, 0, none⟩)]) (by simp) (by simp [go_sem]) ?_
  refine (bcatch_ref (w.heap.size + 1) w.heap.size 0 (.slice none 0 0) 0 E w1 H1.out.1 H1.out.2.1).mono ?_
  rintro e u' w2 ⟨rfl, rfl, h2, h3, hk⟩
  exact ⟨_, ret10 h2 h3, H1.out.2.2.trans (hk.below H1.out.2.2.size (fun k h1 h2 => by omega)), rfl⟩

/-- Behind take: the result's block, the list. -/
structure Db (w W : World) (f : Int) (S : Value) (ts : List Txd) : Prop where
  r2 : W.heap[w.heap.size]? = some (bo f S)
  r3 : W.heap[w.heap.size + 1]? = some (.cells #[.int .i64 0] 32 (0, 0))
  ts : TsAt (w.heap.size + 2) W S ts
  hb : Below w.heap.size w W

theorem Db.below {w W W' : World} {f : Int} {S : Value} {ts : List Txd} (h : Db w W f S ts) (hb : Below W.heap.size W W') : Db w W' f S ts :=
  ⟨blk_of hb h.r2 (lt_of h.r2), blk_of hb h.r3 (lt_of h.r3), h.ts.below hb, below_on h.hb hb⟩

abbrev putB (w : World) (r : Nat) (a b : Value) : World := (w.setCell ⟨r, 0, none⟩ a).setCell ⟨r, 1, none⟩ b

theorem db_put {w w1 : World} {f0 f : Int} {S0 S : Value} {ts : List Txd} (h1 : w1.heap[w.heap.size]? = some (bo f0 S0) ∧ w1.heap[w.heap.size + 1]? = some (.cells #[.int .i64 0] 32 (0, 0)) ∧ Below w.heap.size w w1) (ht : TsAt (w.heap.size + 2) w1 S ts) :
    Db w (putB w1 w.heap.size (.int .i64 f) S) f S ts := by
  have k : Kept (fun k => k = w.heap.size) w1 (putB w1 w.heap.size (.int .i64 f) S) := ((Kept.refl (fun k => k = w.heap.size) w1).setCell (p := ⟨w.heap.size, 0, none⟩) (fun _ => rfl) _).setCell (p := ⟨w.heap.size, 1, none⟩) (fun _ => rfl) _
  obtain ⟨e1, e2, e3⟩ := h1
  exact ⟨by simp [putB, World.setCell, Array.getElem?_modify, e1], (k.block _ (lt_of e2) (by omega)).trans e2, ht.same (Same.kept k (fun k h1 _ => by omega)), e3.trans (k.below e3.size (fun k h1 h2 => by omega))⟩

theorem Db.fin {w W : World} {f : Int} {S : Value} {ts : List Txd} (h : Db w W f S ts) :
    ((putB W w.heap.size (.int .i64 f) S).setCell ⟨w.heap.size + 1, 0, none⟩ (.int .i64 0)).heap[w.heap.size]? = some (bo f S) ∧
    ((putB W w.heap.size (.int .i64 f) S).setCell ⟨w.heap.size + 1, 0, none⟩ (.int .i64 0)).heap[w.heap.size + 1]? = some (.cells #[.int .i64 0] 32 (0, 0)) ∧
    Below w.heap.size w ((putB W w.heap.size (.int .i64 f) S).setCell ⟨w.heap.size + 1, 0, none⟩ (.int .i64 0)) ∧
    TsAt w.heap.size ((putB W w.heap.size (.int .i64 f) S).setCell ⟨w.heap.size + 1, 0, none⟩ (.int .i64 0)) S ts := by
  have h2 := db_put (f := f) ⟨h.r2, h.r3, h.hb⟩ h.ts
  generalize putB W w.heap.size (.int .i64 f) S = V at h2
  have k : Kept (fun k => k = w.heap.size + 1) V (V.setCell ⟨w.heap.size + 1, 0, none⟩ (.int .i64 0)) := (Kept.refl (fun k => k = w.heap.size + 1) V).setCell (p := ⟨w.heap.size + 1, 0, none⟩) (fun _ => rfl) _
  have e3 := h2.r3
  exact ⟨(k.block _ (lt_of h2.r2) (by omega)).trans h2.r2, by simp [World.setCell, Array.getElem?_modify, e3], h2.hb.trans (k.below h2.hb.size (fun k h1 h2 => by omega)), (h2.ts.same (Same.kept k (fun k h1 _ => by omega))).mono (by omega)⟩

theorem tkTx_L (bs : List Int) (a : Nat) (t : Txd) (a2 : Nat) (h : tkTx bs a = .ok (t, a2)) (ho : Oct bs) : TxL t := by
  unfold tkTx at h
  split at h
  · split at h
    · unfold tkDef at h
      split at h
      · split at h
        · cases h
        · rename_i nm ar xs hd
          injection h with h
          injection h with h1 _
          subst h1
          have := tkProc_len _ _ _ _ (decP_ok _ _ _ _ hd).1
          exact ⟨by dsimp only; omega, by simp⟩
      · cases h
    · split at h
      · unfold tkCal at h
        split at h
        · unfold tkCalN at h
          split at h
          · split at h
            · split at h
              · cases h
              · rename_i hle vs a3 hv
                injection h with h
                injection h with h1 _
                subst h1
                have h2 := (tkVs_part bs ho _ _ _ _ _ hv).2.2.2
                exact ⟨by simp, by dsimp only; omega⟩
            · cases h
          · cases h
        · cases h
      · cases h
  · cases h

theorem tkTs_L (bs : List Int) (ho : Oct bs) : ∀ (n a : Nat) (ts : List Txd) (a2 : Nat), tkTs bs n a = .ok (ts, a2) → ∀ t ∈ ts, TxL t := by
  intro n
  induction n with
  | zero => intro a ts a2 h t ht; rw [tkTs] at h; injection h with h; injection h with h1 _; rw [← h1] at ht; simp at ht
  | succ n ih =>
    intro a ts a2 h t ht
    rw [tkTs] at h
    cases hI : tkTx bs a with
    | error E => rw [hI] at h; cases h
    | ok r =>
      obtain ⟨d, a3⟩ := r
      rw [hI] at h
      dsimp only at h
      cases hC : tkTs bs n a3 with
      | error E => rw [hC] at h; cases h
      | ok r =>
        obtain ⟨ys, a4⟩ := r
        rw [hC] at h
        injection h with h
        injection h with h1 _
        rw [← h1] at ht
        rcases List.mem_cons.1 ht with rfl | ht
        · exact tkTx_L bs a t a3 hI ho
        · exact ih a3 ys a4 hC t ht

theorem tkBat_L (bs : List Int) (ho : Oct bs) (f : Int) (ts : List Txd) (h : tkBat bs = .ok (f, ts)) : ∀ t ∈ ts, TxL t := by
  obtain ⟨t1, a1, n, t2, a2, a3, h1, h2, h64, hC, hE⟩ := tkBat_ok bs f ts h
  exact tkTs_L bs ho _ _ _ _ hC

theorem TsAt.form {B : Nat} {w : World} {S : Value} {ts : List Txd} (h : TsAt B w S ts) : ∃ ao cap, S = .slice ao ts.length cap := by
  obtain ⟨ao, cap, h, _⟩ := h
  exact ⟨ao, cap, h⟩

set_option maxRecDepth 100000 in
set_option maxHeartbeats 4000000 in
theorem bdecode_no (v : Value) (bs : List Int) (w : World) (h : Sl w v bs) (ho : Oct bs) (hl : bs.length ≤ 65536) (f : Int) (ts : List Txd) (hT : tkBat bs = .ok (f, ts)) (hE : batChk f ts ≠ 0) : Calls Try.prog 10 #[v] w (DB w (.error (batChk f ts))) := by
  have HT := hid (fun W (hW : Sl W v bs) => btake_any v bs W hW ho (by omega))
  have hlen := (tkBat_bytes bs ho f ts hT).2.2
  have HC := hid (fun B S W hW => bcheck_any B f S ts W hW (tkBat_L bs ho f ts hT) (by omega))
  rw [hT] at HT
  unfold TKB at HT
  dsimp only at HT
  generalize batChk f ts = E at *
  have HH := hid h
  obtain ⟨ao, cap, rfl, -, -⟩ := h
  have hmf : ∀ (fn : Fn) (first cap : Array Value) (w : World), (Instr.makeFunc fn first cap).run Try.prog w = .ok (.func fn first cap) w := fun _ _ _ _ => rfl
  have hl' : decide ((65536 : Int) < (bs.length : Int)) = false := by simp; omega
  unfold DB
  dsimp only
  clear hl hT
  go_enter_defers Try.func10, Try.ntmps10
  go_wp2_with (first
    | (go_at_call 21
       refine (HT.out _ (HH.out.below (below2 w _ _))).mono ?_
       rintro e w1 ⟨hb1, S, rfl, hts⟩
       have H1 := hid (db_put (f := f) (bdoor hb1) (hts.mono (by simp)))
       obtain ⟨c0, c1, cz⟩ := vfacts2 (bdoor hb1).1
       obtain ⟨ao2, cap2, rfl⟩ := hts.form
       clear hb1 hts)
    | (go_at_call 7
       refine (HC.out _ _ _ H1.out.ts).mono ?_
       rintro e w2 ⟨rfl, hb2⟩
       have H2 := hid (H1.out.below hb2)
       clear hb2)
    | (go_at_call 22; refine (binsist_no E hE _).mono ?_; rintro e w3 ⟨rfl, e3⟩; rw [e3]; clear e3 w3))
  refine leaves_cons (f := 20) (args := #[.pointer (some ⟨w.heap.size, 0, none⟩), .pointer (some ⟨w.heap.size + 1, 0, none⟩)]) (by simp) (by simp [go_sem]) ?_
  refine (bcatch_ref (w.heap.size + 1) w.heap.size _ _ 0 E w2 H2.out.r2 H2.out.r3).mono ?_
  rintro e u' w4 ⟨rfl, rfl, h2, h3, hk⟩
  exact ⟨_, ret10 h2 h3, H2.out.hb.trans (hk.below H2.out.hb.size (fun k h1 h2 => by omega)), rfl⟩

set_option maxRecDepth 100000 in
set_option maxHeartbeats 4000000 in
theorem bdecode_ok (v : Value) (bs : List Int) (w : World) (h : Sl w v bs) (ho : Oct bs) (hl : bs.length ≤ 65536) (f : Int) (ts : List Txd) (hT : tkBat bs = .ok (f, ts)) (hE : batChk f ts = 0) : Calls Try.prog 10 #[v] w (DB w (.ok (f, ts))) := by
  have HT := hid (fun W (hW : Sl W v bs) => btake_any v bs W hW ho (by omega))
  have hlen := (tkBat_bytes bs ho f ts hT).2.2
  have HC := hid (fun B S W hW => bcheck_any B f S ts W hW (tkBat_L bs ho f ts hT) (by omega))
  rw [hT] at HT
  rw [hE] at HC
  unfold TKB at HT
  dsimp only at HT
  have HH := hid h
  obtain ⟨ao, cap, rfl, -, -⟩ := h
  have hmf : ∀ (fn : Fn) (first cap : Array Value) (w : World), (Instr.makeFunc fn first cap).run Try.prog w = .ok (.func fn first cap) w := fun _ _ _ _ => rfl
  have hl' : decide ((65536 : Int) < (bs.length : Int)) = false := by simp; omega
  unfold DB
  dsimp only
  clear hl hT hE
  go_enter_defers Try.func10, Try.ntmps10
  go_wp2_with (first
    | (go_at_call 21
       refine (HT.out _ (HH.out.below (below2 w _ _))).mono ?_
       rintro e w1 ⟨hb1, S, rfl, hts⟩
       have H1 := hid (db_put (f := f) (bdoor hb1) (hts.mono (by simp)))
       obtain ⟨c0, c1, cz⟩ := vfacts2 (bdoor hb1).1
       obtain ⟨ao2, cap2, rfl⟩ := hts.form
       clear hb1 hts)
    | (go_at_call 7
       refine (HC.out _ _ _ H1.out.ts).mono ?_
       rintro e w2 ⟨rfl, hb2⟩
       have H2 := hid (H1.out.below hb2)
       obtain ⟨c0, c1, cz⟩ := vfacts2 H2.out.r2
       have d0 : w2.cell? ⟨w.heap.size + 1, 0, none⟩ = some (.int .i64 0) := by rw [cell_of_row w2 _ _ _ _ _ H2.out.r3]; rfl
       have dz : ∀ o, w2.frozen? ⟨w.heap.size + 1, o, none⟩ = false := fun o => by simp [World.frozen?, H2.out.r3]
       clear hb2)
    | (go_at_call 22; refine (binsist_ok _).mono ?_; rintro e w3 ⟨rfl, e3⟩; rw [e3]; clear e3 w3))
  refine leaves_cons (f := 20) (args := #[.pointer (some ⟨w.heap.size, 0, none⟩), .pointer (some ⟨w.heap.size + 1, 0, none⟩)]) (by simp) (by simp [go_sem]) ?_
  refine (bcatch_idle _ _ _).mono ?_
  rintro e u' w4 ⟨rfl, rfl, rfl⟩
  obtain ⟨f1, f2, f3, f4⟩ := H2.out.fin
  exact ⟨_, ret10 f1 f2, f3, _, rfl, f4⟩

theorem bdecode_any (v : Value) (bs : List Int) (w : World) (h : Sl w v bs) (ho : Oct bs) : Calls Try.prog 10 #[v] w (DB w (decBat bs)) := by
  unfold decBat
  by_cases hl : bs.length ≤ 65536
  · rw [if_pos hl]
    cases hT : tkBat bs with
    | error E => exact bdecode_take_no v bs w h ho hl E hT
    | ok r =>
      obtain ⟨f, ts⟩ := r
      dsimp only
      by_cases h0 : batChk f ts = 0
      · rw [if_pos h0]
        exact bdecode_ok v bs w h ho hl f ts hT h0
      · rw [if_neg h0]
        exact bdecode_no v bs w h ho hl f ts hT h0
  · rw [if_neg hl]
    exact bdecode_long v bs w h (by omega)

end Go.Proofs.Ytdnlfacfleemeaa
