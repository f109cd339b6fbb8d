import Derived.Test.YtiammlngbejhkaaK15
namespace Go.Proofs.Ytiammlngbejhkaa
open Go.RowKit

theorem enc_app0 {ws wr w7 : World} {B n gg cq : Nat} {ao : Option Addr} {cc : Nat} {lc : List Int} {o : Obj} (hk : Below ws.heap.size ws wr) (hb : ∀ k, (Value.slice ao n cc).ownBlock = some k → ws.heap.size ≤ k)
    (ho : w7.ownsRow B 5 1 (.slice (some ⟨gg, 0, none⟩) (n + 1) cq) (n + 1) (B8 lc ++ [.int .u8 201])) (hg : (wr.alloc o).grownBy w7 (Value.slice ao n cc).ownBlock) (hat : (Value.slice ao n cc).ownBlock = some gg ∨ gg = wr.heap.size + 1) :
    w7.ownsRow B 5 1 (.slice (some ⟨gg, 0, none⟩) (n + 1) cq) (n + 1) (B8 (lc ++ [201])) ∧ (∀ k, (Value.slice (some ⟨gg, 0, none⟩) (n + 1) cq).ownBlock = some k → ws.heap.size ≤ k) ∧ Below ws.heap.size ws w7 := by
  refine ⟨by simpa [B8] using ho, ?_, (hk.alloc hk.size o).grown hg (by have := hk.size; simp; omega) hb⟩
  intro k hk2
  simp [Value.ownBlock] at hk2
  subst hk2
  rcases hat with h | h
  · exact hb _ h
  · have := hk.size; omega

set_option maxRecDepth 100000 in
set_option maxHeartbeats 3200000 in
theorem encodes_no (k i : Int) (s : ByteArray) (_h0 : -9223372036854775808 ≤ i) (_h1 : i < 9223372036854775808) (r : Int) (hr : chk k i s = r) (hc : r ≠ 0) (hl : (s.size : Int) ≤ 100000) (w : World) : Calls Try.prog 4 #[vl k i s] w fun x w' => x = .returned (.bool true) ∧ Below w.heap.size w w' := by
  have hE' : ∀ w, Calls Try.prog 28 #[vl k i s] w (EncNo r w) := fun w => encode_no k i s r hr hc w
  have hR' : ∀ w, Calls Try.prog 29 #[vl k i s] w (EncNo r w) := fun w => rencode_no k i s r hr hc w
  have HE := hid hE'
  have HR := hid hR'
  clear hE' hR' hr hc
  have hB0 := hid (below1 w (vo k i s))
  have hR0 := hid (heap_alloc_new w (vo k i s))
  have sn0 : ∀ w : World, Hid (Sl w (.slice none 0 0) []) := fun w => hid (sn_nil w).1
  go_enter Try.func4, Try.ntmps4
  go_upto_region 6 with (first
    | (go_at_call 28
       (with_reducible show Calls _ _ _ (w.alloc _) _)
       refine (HE.out _).mono ?_
       rintro e w1 ⟨rfl, hb1⟩
       have g1 := vcell hR0.out hb1
       obtain ⟨c0, c1, c2, -⟩ := vfacts g1
       have H1 := hid (And.intro g1 (below_on hB0.out hb1))
       clear hb1 g1)
    | (go_at_call 28
       (with_reducible show Calls _ _ _ w1 _)
       refine (HE.out _).mono ?_
       rintro e w2 ⟨rfl, hb2⟩
       have g2 := vcell H1.out.1 hb2
       obtain ⟨c0, c1, c2, -⟩ := vfacts g2
       have H2 := hid (And.intro g2 (below_on H1.out.2 hb2))
       clear hb2 g2)
    | (go_at_call 29
       refine (HR.out _).mono ?_
       rintro e w3 ⟨rfl, hb3⟩
       have H3 := hid (And.intro (vcell H2.out.1 hb3) (below_on H2.out.2 hb3))
       clear hb3))
  clear H1 H2 c0 c1 c2
  go_wp2_with (first
    | (go_at_call 30
       (with_reducible show Calls _ _ _ w3 _)
       refine (bytes_any _ _ [] [] _ (sn0 _).out (sn0 _).out (by simp)).mono ?_
       rintro e w4 ⟨⟨nq, e4⟩, rfl⟩
       rw [show decide (([] : List Int) = []) = true by rfl]
       have hb4 : Below w3.heap.size w3 w4 := by rw [e4]; exact ⟨rfl, rfl, rfl, Nat.le_refl _, fun _ _ => rfl⟩
       have H4 := hid (And.intro (vcell H3.out.1 hb4) (below_on H3.out.2 hb4))
       clear e4 hb4)
    | (go_at_call 30
       (with_reducible show Calls _ _ _ w4 _)
       refine (bytes_any _ _ [] [] _ (sn0 _).out (sn0 _).out (by simp)).mono ?_
       rintro e w5 ⟨⟨nq5, e5⟩, rfl⟩
       rw [show decide (([] : List Int) = []) = true by rfl]
       have hb5 : Below w4.heap.size w4 w5 := by rw [e5]; exact ⟨rfl, rfl, rfl, Nat.le_refl _, fun _ _ => rfl⟩
       have H5 := hid (And.intro (vcell H4.out.1 hb5) (below_on H4.out.2 hb5))
       clear e5 hb5))
  go_loopw [9] (fun ix wr => ix = .int .i64 0 ∧ wr = w5) (fun ix _ => 0)
  case atStart => exact ⟨rfl, rfl⟩
  case round =>
    obtain ⟨rfl, rfl⟩ := hrel
    go_wp2
    rename World => ws
    have H5 : Hid (ws.heap[w.heap.size]? = some (vo k i s) ∧ Below w.heap.size w ws) := H5
    go_loopw [10, 11] (fun cv ix wr => ∃ (m : Nat) (lc : List Int) (ao : Option Addr) (cc : Nat), m ≤ 40 ∧ ix = .int .i64 m ∧ cv = .slice ao m cc ∧ Hid (wr.ownsRow w.heap.size 5 1 (.slice ao m cc) m (B8 lc)) ∧ Hid (∀ k, (Value.slice ao m cc).ownBlock = some k → ws.heap.size ≤ k) ∧ Hid (Below ws.heap.size ws wr)) (fun _ ix _ => 40 - (intOf ix).toNat)
    case atStart => exact ⟨0, [], none, 0, Nat.zero_le _, rfl, rfl, hid ⟨rfl, .inl ⟨rfl, rfl⟩⟩, hid (fun k hk => by simp [Value.ownBlock] at hk), hid (Below.refl _ _)⟩
    case round =>
      obtain ⟨m, lc, aoC, ccC, hm, rfl, rfl, hC, hCb, hK⟩ := hrel
      by_cases hlt2 : m < 40
      · have i1 : (m : Int) < 40 := by omega
        obtain ⟨i0, hi, hz0, hz1, hz2⟩ := info_parts Try.info5
        go_wp2_with (at_builtin; go_loud (
            refine wpList_append_lies _ rfl _ _ _ rfl w.heap.size 5 i0 (.int .u8 0) 1 1 Try.underlying40 hi hz0 hz1 hz2 rfl (by omega) _ m (B8 lc) rfl (hC.out.alloc _) ⟨wr.heap.size, 0, none⟩ 1 1 [.int .u8 201] rfl rfl (World.news_of_block (cs := #[.int .u8 201]) (t := 5) (fr := (0, 0)) (heap_alloc_new wr _)) (by simp [Value.oneCell']) (by omega) (by unfold maxLen; omega) (by omega) (by have := H5.out.2.size; have := hK.out.size; simp; omega) (wr.heap.size + 1) (by simp) ?_
            intro gg cq w7 hown hgrow hat hgl
            have H7 := hid (enc_app0 hK.out hCb.out hown hgrow hat)
            clear hown hgrow hat hgl))
        exact ⟨⟨m + 1, lc ++ [201], some ⟨gg, 0, none⟩, cq, by omega, by simp, rfl, hid H7.out.1, hid H7.out.2.1, hid H7.out.2.2⟩, by simp [intOf]; omega⟩
      · have hm40 : m = 40 := by omega
        subst hm40
        have H6 := hid (And.intro (vcell H5.out.1 hK.out) (below_on H5.out.2 hK.out))
        clear hC hCb hK
        go_wp2_with (first
            | (go_at_call 30
               (with_reducible show Calls _ _ _ wr _)
               refine (bytes_any _ _ [] [] _ (sn0 _).out (sn0 _).out (by simp)).mono ?_
               rintro e w8 ⟨⟨nq8, e8⟩, rfl⟩
               rw [show decide (([] : List Int) = []) = true by rfl]
               have hb8 : Below wr.heap.size wr w8 := by rw [e8]; exact ⟨rfl, rfl, rfl, Nat.le_refl _, fun _ _ => rfl⟩
               have E8 := hid (And.intro (vcell H6.out.1 hb8) (below_on H6.out.2 hb8))
               obtain ⟨c0, c1, c2, -⟩ := vfacts E8.out.1
               clear e8 hb8)
            | (go_at_call 28
               refine (HE.out _).mono ?_
               rintro e w9 ⟨rfl, hb9⟩
               have E9 := hid (below_on E8.out.2 hb9)
               clear hb9)
            | (go_at_call 30
               (with_reducible show Calls _ _ _ w9 _)
               refine (bytes_any _ _ [] [] _ (sn0 _).out (sn0 _).out (by simp)).mono ?_
               rintro e wa ⟨⟨nqa, ea⟩, rfl⟩
               rw [show decide (([] : List Int) = []) = true by rfl]
               have hba : Below w9.heap.size w9 wa := by rw [ea]; exact ⟨rfl, rfl, rfl, Nat.le_refl _, fun _ _ => rfl⟩
               have EA := hid (below_on E9.out hba)
               clear ea hba)
            | (go_at_call 9
               refine (known_any _).mono ?_
               rintro e wb ⟨rfl, hbb⟩
               have HB := hid (below_on EA.out hbb)
               clear hbb))
        go_ret
        exact ⟨rfl, HB.out⟩

set_option maxRecDepth 100000 in
set_option maxHeartbeats 1600000 in
theorem encodes_any (k i : Int) (s : ByteArray) (h0 : -9223372036854775808 ≤ i) (h1 : i < 9223372036854775808) (w : World) : Calls Try.prog 4 #[vl k i s] w fun x w' => x = .returned (.bool true) ∧ Below w.heap.size w w' := by
  by_cases hl : (s.size : Int) ≤ 100000
  · by_cases hc : chk k i s = 0
    · exact encodes_ok k i s h0 h1 hc hl w
    · exact encodes_no k i s h0 h1 _ rfl hc hl w
  · have hB0 := hid (below1 w (vo k i s))
    go_enter Try.func4, Try.ntmps4
    go_wp2_with (go_at_call 9; refine (known_any _).mono ?_; rintro e w1 ⟨rfl, hb⟩)
    go_ret
    exact ⟨rfl, below_on hB0.out hb⟩

end Go.Proofs.Ytiammlngbejhkaa
