import Derived.Test.YthcoigbkdbkojabGreatK14
set_option maxRecDepth 100000
namespace Go.Proofs.YthcoigbkdbkojabGreat
open Go.RowKit Go.MapKept
open V (hp_new hp_lt hp_below hp_alloc kl)
def strOf : Value → ByteArray
  | .string s => s
  | _ => emp
theorem gt_eq (a b : ByteArray) : (!Op.bytesLess a.toList b.toList && !(a.toList == b.toList)) = kl b a := V.gtr_eq a b
section
variable {w w' : World} {B mb M : Nat} {s : Ms} {td : List Vd} {lk : List (ByteArray × ByteArray)} {l : KV}
set_option maxHeartbeats 12800000 in
theorem above_any (text to : ByteArray) (p : Nat) (L : KV) (h : MX w B mb s td lk M (kvV l)) (hv : s.vw = .iface 42 (.pointer (some ⟨p, 0, none⟩))) (hV : VL w p L) (hL : VOk L) (hK : KOk l) (ht : text.size ≤ 1000) :
    Calls Tryz.prog 105 #[.pointer (some ⟨mb, 0, none⟩), .string text, .string to] w fun e w' => ∃ r, e = .returned (.string r) ∧ AbP L l text to r ∧ Below w.heap.size w w' := by
  have HO := hid (ownAb_any text h)
  have H := hid (And.intro h (And.intro hv (And.intro hV (And.intro hL hK))))
  have HT := hid ht
  clear h hv hV hL hK ht
  go_enter Tryz.func105, Tryz.ntmps105
  go_wp2_with (first
    | (go_at_call 129
       refine HO.out.mono ?_
       rintro e w0 ⟨own, rfl, ho, hb0⟩
       have HW := hid (And.intro ho hb0)
       clear ho hb0))
  go_loopw [1] (fun tx wr => ∃ t' : ByteArray, tx = .string t' ∧ Hid (AbI L l text t' ∧ t'.size ≤ 1000 ∧ Below w.heap.size w wr)) (fun tx _ => cntA L (strOf tx))
  case atStart => exact ⟨text, rfl, hid ⟨AbI.start L l text, HT.out, HW.out.2⟩⟩
  case round =>
    obtain ⟨t', rfl, HR⟩ := hrel
    have hx := H.out.1.below HR.out.2.2
    have HN := hid (viewAb_any t' p L hx H.out.2.1 (H.out.2.2.1.below HR.out.2.2) (by have := HR.out.2.1; omega))
    obtain ⟨vk, hvk⟩ : ∃ vk, vk = vkOf L t' := ⟨_, rfl⟩
    have HVK := hid hvk
    replace HN : Hid (Calls Tryz.prog 130 #[.pointer (some ⟨mb, 0, none⟩), .string t'] wr fun e w' => e = .returned (.string vk) ∧ Below wr.heap.size wr w') := hid (by rw [hvk]; exact HN.out)
    have HX := hid hx
    have HOW : Hid (OwnP l text own) := hid HW.out.1
    clear hx hvk
    by_cases T0 : to = emp
    · have te := V.emp_eq T0
      have TE := hid T0
      clear T0
      by_cases VEC : vk = emp
      · have ve := V.emp_eq VEC
        have VE := hid VEC
        clear VEC
        by_cases OE : own = emp
        · have LK := hid (show lkp own l = none from by rw [OE, lkp_none]; intro hm; obtain ⟨x, hx, e⟩ := List.mem_map.1 hm; exact isKey_ne (H.out.2.2.2.2 x hx) e)
          have oe := V.emp_eq OE
          clear OE
          go_wp2_with (
            go_at_call 130
            refine HN.out.mono ?_
            rintro e w1 ⟨rfl, hb1⟩
            have hx1 := HX.out.below hb1
            have hlk := hx1.lookG own
            rw [LK.out] at hlk
            replace hlk : (Instr.lookup 74 (.map (some M)) (.string own) true).run Tryz.prog w1 = .ok (.tuple #[vl 0 0 emp, .bool false]) w1 := hlk
            obtain ⟨-, -, -, -, a4, -⟩ := hx1.m.cells
            rw [H.out.1.wv] at a4
            have hml1 := hx1.m.lt
            have HB := hid (below_on HR.out.2.2 hb1)
            clear hb1 hx1)
          go_ret
          exact ⟨own, rfl, ab_own H.out.2.2.2.1 HOW.out HR.out.1 (.inl (by rw [← HVK.out]; exact VE.out)) (.inl TE.out), HB.out.alloc HB.out.size _⟩
        · obtain ⟨v, LK, -⟩ := HOW.out.1.resolve_left OE
          obtain ⟨ck, ci, ct⟩ := v
          replace LK := hid LK
          have on := V.emp_ne OE
          clear OE
          go_wp2_with (
            go_at_call 130
            refine HN.out.mono ?_
            rintro e w1 ⟨rfl, hb1⟩
            have hx1 := HX.out.below hb1
            have hlk := hx1.lookG own
            rw [LK.out] at hlk
            replace hlk : (Instr.lookup 74 (.map (some M)) (.string own) true).run Tryz.prog w1 = .ok (.tuple #[vl ck ci ct, .bool true]) w1 := hlk
            obtain ⟨-, -, -, -, a4, -⟩ := hx1.m.cells
            rw [H.out.1.wv] at a4
            have hml1 := hx1.m.lt
            have HB := hid (below_on HR.out.2.2 hb1)
            clear hb1 hx1)
          go_ret
          exact ⟨own, rfl, ab_own H.out.2.2.2.1 HOW.out HR.out.1 (.inl (by rw [← HVK.out]; exact VE.out)) (.inl TE.out), HB.out.alloc HB.out.size _⟩
      · have vn := V.emp_ne VEC
        have VN := hid VEC
        clear VEC
        by_cases OC : own = emp
        · have oe := V.emp_eq OC
          have OE := hid OC
          clear OC
          cases LKC : lkp vk l with
          | none =>
            have LK := hid LKC
            clear LKC
            go_wp2_with (
              go_at_call 130
              refine HN.out.mono ?_
              rintro e w1 ⟨rfl, hb1⟩
              have hx1 := HX.out.below hb1
              have hlk := hx1.lookG vk
              rw [LK.out] at hlk
              replace hlk : (Instr.lookup 74 (.map (some M)) (.string vk) true).run Tryz.prog w1 = .ok (.tuple #[vl 0 0 emp, .bool false]) w1 := hlk
              obtain ⟨-, -, -, -, a4, -⟩ := hx1.m.cells
              rw [H.out.1.wv] at a4
              have hml1 := hx1.m.lt
              have HB := hid (below_on HR.out.2.2 hb1)
              clear hb1 hx1)
            go_ret
            exact ⟨vk, rfl, by rw [HVK.out]; exact ab_view H.out.2.2.2.1 HOW.out HR.out.1 (by rw [← HVK.out]; exact VN.out) (.inl OE.out) (by rw [← HVK.out]; exact LK.out) (.inl TE.out), HB.out.alloc HB.out.size _⟩
          | some v =>
            have HNE := hid (show AbI L l text vk ∧ vk.size ≤ 1000 ∧ cntA L vk < cntA L t' from by rw [HVK.out]; exact ⟨ab_next H.out.2.2.2.1 HOW.out HR.out.1 (by rw [← HVK.out]; exact VN.out) (.inl OE.out) (by rw [← HVK.out]; exact LKC), (by obtain ⟨v2, -, -, -, h5⟩ := vk_some H.out.2.2.2.1 (text := t') (by rw [← HVK.out]; exact VN.out); have := (isKey_size h5).2; omega), cnt_less H.out.2.2.2.1 (by rw [← HVK.out]; exact VN.out)⟩)
            obtain ⟨ck, ci, ct⟩ := v
            have LK := hid LKC
            clear LKC
            have vo : (vk.toList == own.toList) = false := V.keq_false (fun e => VN.out (e.trans OE.out))
            go_wp2_with (
              go_at_call 130
              refine HN.out.mono ?_
              rintro e w1 ⟨rfl, hb1⟩
              have hx1 := HX.out.below hb1
              have hlk := hx1.lookG vk
              rw [LK.out] at hlk
              replace hlk : (Instr.lookup 74 (.map (some M)) (.string vk) true).run Tryz.prog w1 = .ok (.tuple #[vl ck ci ct, .bool true]) w1 := hlk
              obtain ⟨-, -, -, -, a4, -⟩ := hx1.m.cells
              rw [H.out.1.wv] at a4
              have hml1 := hx1.m.lt
              have HB := hid (below_on HR.out.2.2 hb1)
              clear hb1 hx1)
            go_roundw
            case rel => exact ⟨vk, rfl, hid ⟨HNE.out.1, HNE.out.2.1, HB.out.alloc HB.out.size _⟩⟩
            case measure => exact HNE.out.2.2
        · have on := V.emp_ne OC
          have ON := hid OC
          clear OC
          cases LC : kl vk own
          · have le : (Op.bytesLess own.toList vk.toList || (own.toList == vk.toList)) = true := by rw [V.leq_eq, LC]; rfl
            have LE := hid LC
            clear LC
            by_cases OE : own = emp
            · have LK := hid (show lkp own l = none from by rw [OE, lkp_none]; intro hm; obtain ⟨x, hx, e⟩ := List.mem_map.1 hm; exact isKey_ne (H.out.2.2.2.2 x hx) e)
              clear OE
              go_wp2_with (
                go_at_call 130
                refine HN.out.mono ?_
                rintro e w1 ⟨rfl, hb1⟩
                have hx1 := HX.out.below hb1
                have hlk := hx1.lookG own
                rw [LK.out] at hlk
                replace hlk : (Instr.lookup 74 (.map (some M)) (.string own) true).run Tryz.prog w1 = .ok (.tuple #[vl 0 0 emp, .bool false]) w1 := hlk
                obtain ⟨-, -, -, -, a4, -⟩ := hx1.m.cells
                rw [H.out.1.wv] at a4
                have hml1 := hx1.m.lt
                have HB := hid (below_on HR.out.2.2 hb1)
                clear hb1 hx1)
              go_ret
              exact ⟨own, rfl, ab_own H.out.2.2.2.1 HOW.out HR.out.1 (.inr ⟨ON.out, by rw [← HVK.out]; exact LE.out⟩) (.inl TE.out), HB.out.alloc HB.out.size _⟩
            · obtain ⟨v, LK, -⟩ := HOW.out.1.resolve_left OE
              obtain ⟨ck, ci, ct⟩ := v
              replace LK := hid LK
              clear OE
              go_wp2_with (
                go_at_call 130
                refine HN.out.mono ?_
                rintro e w1 ⟨rfl, hb1⟩
                have hx1 := HX.out.below hb1
                have hlk := hx1.lookG own
                rw [LK.out] at hlk
                replace hlk : (Instr.lookup 74 (.map (some M)) (.string own) true).run Tryz.prog w1 = .ok (.tuple #[vl ck ci ct, .bool true]) w1 := hlk
                obtain ⟨-, -, -, -, a4, -⟩ := hx1.m.cells
                rw [H.out.1.wv] at a4
                have hml1 := hx1.m.lt
                have HB := hid (below_on HR.out.2.2 hb1)
                clear hb1 hx1)
              go_ret
              exact ⟨own, rfl, ab_own H.out.2.2.2.1 HOW.out HR.out.1 (.inr ⟨ON.out, by rw [← HVK.out]; exact LE.out⟩) (.inl TE.out), HB.out.alloc HB.out.size _⟩
          · have le : (Op.bytesLess own.toList vk.toList || (own.toList == vk.toList)) = false := by rw [V.leq_eq, LC]; rfl
            have LE := hid LC
            clear LC
            cases LKC : lkp vk l with
            | none =>
              have LK := hid LKC
              clear LKC
              go_wp2_with (
                go_at_call 130
                refine HN.out.mono ?_
                rintro e w1 ⟨rfl, hb1⟩
                have hx1 := HX.out.below hb1
                have hlk := hx1.lookG vk
                rw [LK.out] at hlk
                replace hlk : (Instr.lookup 74 (.map (some M)) (.string vk) true).run Tryz.prog w1 = .ok (.tuple #[vl 0 0 emp, .bool false]) w1 := hlk
                obtain ⟨-, -, -, -, a4, -⟩ := hx1.m.cells
                rw [H.out.1.wv] at a4
                have hml1 := hx1.m.lt
                have HB := hid (below_on HR.out.2.2 hb1)
                clear hb1 hx1)
              go_ret
              exact ⟨vk, rfl, by rw [HVK.out]; exact ab_view H.out.2.2.2.1 HOW.out HR.out.1 (by rw [← HVK.out]; exact VN.out) (.inr (by rw [← HVK.out]; exact LE.out)) (by rw [← HVK.out]; exact LK.out) (.inl TE.out), HB.out.alloc HB.out.size _⟩
            | some v =>
              have HNE := hid (show AbI L l text vk ∧ vk.size ≤ 1000 ∧ cntA L vk < cntA L t' from by rw [HVK.out]; exact ⟨ab_next H.out.2.2.2.1 HOW.out HR.out.1 (by rw [← HVK.out]; exact VN.out) (.inr (by rw [← HVK.out]; exact LE.out)) (by rw [← HVK.out]; exact LKC), (by obtain ⟨v2, -, -, -, h5⟩ := vk_some H.out.2.2.2.1 (text := t') (by rw [← HVK.out]; exact VN.out); have := (isKey_size h5).2; omega), cnt_less H.out.2.2.2.1 (by rw [← HVK.out]; exact VN.out)⟩)
              obtain ⟨ck, ci, ct⟩ := v
              have LK := hid LKC
              clear LKC
              have vo : (vk.toList == own.toList) = false := V.keq_false (V.kl_ne LE.out)
              go_wp2_with (
                go_at_call 130
                refine HN.out.mono ?_
                rintro e w1 ⟨rfl, hb1⟩
                have hx1 := HX.out.below hb1
                have hlk := hx1.lookG vk
                rw [LK.out] at hlk
                replace hlk : (Instr.lookup 74 (.map (some M)) (.string vk) true).run Tryz.prog w1 = .ok (.tuple #[vl ck ci ct, .bool true]) w1 := hlk
                obtain ⟨-, -, -, -, a4, -⟩ := hx1.m.cells
                rw [H.out.1.wv] at a4
                have hml1 := hx1.m.lt
                have HB := hid (below_on HR.out.2.2 hb1)
                clear hb1 hx1)
              go_roundw
              case rel => exact ⟨vk, rfl, hid ⟨HNE.out.1, HNE.out.2.1, HB.out.alloc HB.out.size _⟩⟩
              case measure => exact HNE.out.2.2
    · have tn := V.emp_ne T0
      have TN := hid T0
      clear T0
      cases TC : kl t' to
      · have tl : Op.bytesLess t'.toList to.toList = false := TC
        have TL := hid TC
        clear TC
        go_wp2
        go_ret
        exact ⟨emp, rfl, ab_exit HR.out.1 TN.out TL.out, HR.out.2.2⟩
      · have tl : Op.bytesLess t'.toList to.toList = true := TC
        clear TC
        by_cases VEC : vk = emp
        · have ve := V.emp_eq VEC
          have VE := hid VEC
          clear VEC
          cases GC : kl to own
          · have gt : (!Op.bytesLess own.toList to.toList && !(own.toList == to.toList)) = false := (gt_eq _ _).trans GC
            have GT := hid GC
            clear GC
            by_cases OE : own = emp
            · have LK := hid (show lkp own l = none from by rw [OE, lkp_none]; intro hm; obtain ⟨x, hx, e⟩ := List.mem_map.1 hm; exact isKey_ne (H.out.2.2.2.2 x hx) e)
              have oe := V.emp_eq OE
              clear OE
              go_wp2_with (
                go_at_call 130
                refine HN.out.mono ?_
                rintro e w1 ⟨rfl, hb1⟩
                have hx1 := HX.out.below hb1
                have hlk := hx1.lookG own
                rw [LK.out] at hlk
                replace hlk : (Instr.lookup 74 (.map (some M)) (.string own) true).run Tryz.prog w1 = .ok (.tuple #[vl 0 0 emp, .bool false]) w1 := hlk
                obtain ⟨-, -, -, -, a4, -⟩ := hx1.m.cells
                rw [H.out.1.wv] at a4
                have hml1 := hx1.m.lt
                have HB := hid (below_on HR.out.2.2 hb1)
                clear hb1 hx1)
              go_ret
              exact ⟨own, rfl, ab_own H.out.2.2.2.1 HOW.out HR.out.1 (.inl (by rw [← HVK.out]; exact VE.out)) (.inr GT.out), HB.out.alloc HB.out.size _⟩
            · obtain ⟨v, LK, -⟩ := HOW.out.1.resolve_left OE
              obtain ⟨ck, ci, ct⟩ := v
              replace LK := hid LK
              have on := V.emp_ne OE
              clear OE
              go_wp2_with (
                go_at_call 130
                refine HN.out.mono ?_
                rintro e w1 ⟨rfl, hb1⟩
                have hx1 := HX.out.below hb1
                have hlk := hx1.lookG own
                rw [LK.out] at hlk
                replace hlk : (Instr.lookup 74 (.map (some M)) (.string own) true).run Tryz.prog w1 = .ok (.tuple #[vl ck ci ct, .bool true]) w1 := hlk
                obtain ⟨-, -, -, -, a4, -⟩ := hx1.m.cells
                rw [H.out.1.wv] at a4
                have hml1 := hx1.m.lt
                have HB := hid (below_on HR.out.2.2 hb1)
                clear hb1 hx1)
              go_ret
              exact ⟨own, rfl, ab_own H.out.2.2.2.1 HOW.out HR.out.1 (.inl (by rw [← HVK.out]; exact VE.out)) (.inr GT.out), HB.out.alloc HB.out.size _⟩
          · have gt : (!Op.bytesLess own.toList to.toList && !(own.toList == to.toList)) = true := (gt_eq _ _).trans GC
            have GT := hid GC
            clear GC
            go_wp2_with (
              go_at_call 130
              refine HN.out.mono ?_
              rintro e w1 ⟨rfl, hb1⟩
              have HB := hid (below_on HR.out.2.2 hb1)
              clear hb1)
            go_ret
            exact ⟨emp, rfl, ab_gt HR.out.1 (min_own H.out.2.2.2.1 HOW.out HR.out.1 (.inl (by rw [← HVK.out]; exact VE.out))) TN.out GT.out, HB.out⟩
        · have vn := V.emp_ne VEC
          have VN := hid VEC
          clear VEC
          by_cases OC : own = emp
          · have oe := V.emp_eq OC
            have OE := hid OC
            clear OC
            cases GC : kl to vk
            · have gt : (!Op.bytesLess vk.toList to.toList && !(vk.toList == to.toList)) = false := (gt_eq _ _).trans GC
              have GT := hid GC
              clear GC
              cases LKC : lkp vk l with
              | none =>
                have LK := hid LKC
                clear LKC
                go_wp2_with (
                  go_at_call 130
                  refine HN.out.mono ?_
                  rintro e w1 ⟨rfl, hb1⟩
                  have hx1 := HX.out.below hb1
                  have hlk := hx1.lookG vk
                  rw [LK.out] at hlk
                  replace hlk : (Instr.lookup 74 (.map (some M)) (.string vk) true).run Tryz.prog w1 = .ok (.tuple #[vl 0 0 emp, .bool false]) w1 := hlk
                  obtain ⟨-, -, -, -, a4, -⟩ := hx1.m.cells
                  rw [H.out.1.wv] at a4
                  have hml1 := hx1.m.lt
                  have HB := hid (below_on HR.out.2.2 hb1)
                  clear hb1 hx1)
                go_ret
                exact ⟨vk, rfl, by rw [HVK.out]; exact ab_view H.out.2.2.2.1 HOW.out HR.out.1 (by rw [← HVK.out]; exact VN.out) (.inl OE.out) (by rw [← HVK.out]; exact LK.out) (.inr (by rw [← HVK.out]; exact GT.out)), HB.out.alloc HB.out.size _⟩
              | some v =>
                have HNE := hid (show AbI L l text vk ∧ vk.size ≤ 1000 ∧ cntA L vk < cntA L t' from by rw [HVK.out]; exact ⟨ab_next H.out.2.2.2.1 HOW.out HR.out.1 (by rw [← HVK.out]; exact VN.out) (.inl OE.out) (by rw [← HVK.out]; exact LKC), (by obtain ⟨v2, -, -, -, h5⟩ := vk_some H.out.2.2.2.1 (text := t') (by rw [← HVK.out]; exact VN.out); have := (isKey_size h5).2; omega), cnt_less H.out.2.2.2.1 (by rw [← HVK.out]; exact VN.out)⟩)
                obtain ⟨ck, ci, ct⟩ := v
                have LK := hid LKC
                clear LKC
                have vo : (vk.toList == own.toList) = false := V.keq_false (fun e => VN.out (e.trans OE.out))
                go_wp2_with (
                  go_at_call 130
                  refine HN.out.mono ?_
                  rintro e w1 ⟨rfl, hb1⟩
                  have hx1 := HX.out.below hb1
                  have hlk := hx1.lookG vk
                  rw [LK.out] at hlk
                  replace hlk : (Instr.lookup 74 (.map (some M)) (.string vk) true).run Tryz.prog w1 = .ok (.tuple #[vl ck ci ct, .bool true]) w1 := hlk
                  obtain ⟨-, -, -, -, a4, -⟩ := hx1.m.cells
                  rw [H.out.1.wv] at a4
                  have hml1 := hx1.m.lt
                  have HB := hid (below_on HR.out.2.2 hb1)
                  clear hb1 hx1)
                go_roundw
                case rel => exact ⟨vk, rfl, hid ⟨HNE.out.1, HNE.out.2.1, HB.out.alloc HB.out.size _⟩⟩
                case measure => exact HNE.out.2.2
            · have gt : (!Op.bytesLess vk.toList to.toList && !(vk.toList == to.toList)) = true := (gt_eq _ _).trans GC
              have GT := hid GC
              clear GC
              go_wp2_with (
                go_at_call 130
                refine HN.out.mono ?_
                rintro e w1 ⟨rfl, hb1⟩
                have HB := hid (below_on HR.out.2.2 hb1)
                clear hb1)
              go_ret
              exact ⟨emp, rfl, ab_gt HR.out.1 (min_view H.out.2.2.2.1 HOW.out HR.out.1 (by rw [← HVK.out]; exact VN.out) (.inl OE.out)) TN.out (by rw [← HVK.out]; exact GT.out), HB.out⟩
          · have on := V.emp_ne OC
            have ON := hid OC
            clear OC
            cases LC : kl vk own
            · have le : (Op.bytesLess own.toList vk.toList || (own.toList == vk.toList)) = true := by rw [V.leq_eq, LC]; rfl
              have LE := hid LC
              clear LC
              cases GC : kl to own
              · have gt : (!Op.bytesLess own.toList to.toList && !(own.toList == to.toList)) = false := (gt_eq _ _).trans GC
                have GT := hid GC
                clear GC
                by_cases OE : own = emp
                · have LK := hid (show lkp own l = none from by rw [OE, lkp_none]; intro hm; obtain ⟨x, hx, e⟩ := List.mem_map.1 hm; exact isKey_ne (H.out.2.2.2.2 x hx) e)
                  clear OE
                  go_wp2_with (
                    go_at_call 130
                    refine HN.out.mono ?_
                    rintro e w1 ⟨rfl, hb1⟩
                    have hx1 := HX.out.below hb1
                    have hlk := hx1.lookG own
                    rw [LK.out] at hlk
                    replace hlk : (Instr.lookup 74 (.map (some M)) (.string own) true).run Tryz.prog w1 = .ok (.tuple #[vl 0 0 emp, .bool false]) w1 := hlk
                    obtain ⟨-, -, -, -, a4, -⟩ := hx1.m.cells
                    rw [H.out.1.wv] at a4
                    have hml1 := hx1.m.lt
                    have HB := hid (below_on HR.out.2.2 hb1)
                    clear hb1 hx1)
                  go_ret
                  exact ⟨own, rfl, ab_own H.out.2.2.2.1 HOW.out HR.out.1 (.inr ⟨ON.out, by rw [← HVK.out]; exact LE.out⟩) (.inr GT.out), HB.out.alloc HB.out.size _⟩
                · obtain ⟨v, LK, -⟩ := HOW.out.1.resolve_left OE
                  obtain ⟨ck, ci, ct⟩ := v
                  replace LK := hid LK
                  clear OE
                  go_wp2_with (
                    go_at_call 130
                    refine HN.out.mono ?_
                    rintro e w1 ⟨rfl, hb1⟩
                    have hx1 := HX.out.below hb1
                    have hlk := hx1.lookG own
                    rw [LK.out] at hlk
                    replace hlk : (Instr.lookup 74 (.map (some M)) (.string own) true).run Tryz.prog w1 = .ok (.tuple #[vl ck ci ct, .bool true]) w1 := hlk
                    obtain ⟨-, -, -, -, a4, -⟩ := hx1.m.cells
                    rw [H.out.1.wv] at a4
                    have hml1 := hx1.m.lt
                    have HB := hid (below_on HR.out.2.2 hb1)
                    clear hb1 hx1)
                  go_ret
                  exact ⟨own, rfl, ab_own H.out.2.2.2.1 HOW.out HR.out.1 (.inr ⟨ON.out, by rw [← HVK.out]; exact LE.out⟩) (.inr GT.out), HB.out.alloc HB.out.size _⟩
              · have gt : (!Op.bytesLess own.toList to.toList && !(own.toList == to.toList)) = true := (gt_eq _ _).trans GC
                have GT := hid GC
                clear GC
                go_wp2_with (
                  go_at_call 130
                  refine HN.out.mono ?_
                  rintro e w1 ⟨rfl, hb1⟩
                  have HB := hid (below_on HR.out.2.2 hb1)
                  clear hb1)
                go_ret
                exact ⟨emp, rfl, ab_gt HR.out.1 (min_own H.out.2.2.2.1 HOW.out HR.out.1 (.inr ⟨ON.out, by rw [← HVK.out]; exact LE.out⟩)) TN.out GT.out, HB.out⟩
            · have le : (Op.bytesLess own.toList vk.toList || (own.toList == vk.toList)) = false := by rw [V.leq_eq, LC]; rfl
              have LE := hid LC
              clear LC
              cases GC : kl to vk
              · have gt : (!Op.bytesLess vk.toList to.toList && !(vk.toList == to.toList)) = false := (gt_eq _ _).trans GC
                have GT := hid GC
                clear GC
                cases LKC : lkp vk l with
                | none =>
                  have LK := hid LKC
                  clear LKC
                  go_wp2_with (
                    go_at_call 130
                    refine HN.out.mono ?_
                    rintro e w1 ⟨rfl, hb1⟩
                    have hx1 := HX.out.below hb1
                    have hlk := hx1.lookG vk
                    rw [LK.out] at hlk
                    replace hlk : (Instr.lookup 74 (.map (some M)) (.string vk) true).run Tryz.prog w1 = .ok (.tuple #[vl 0 0 emp, .bool false]) w1 := hlk
                    obtain ⟨-, -, -, -, a4, -⟩ := hx1.m.cells
                    rw [H.out.1.wv] at a4
                    have hml1 := hx1.m.lt
                    have HB := hid (below_on HR.out.2.2 hb1)
                    clear hb1 hx1)
                  go_ret
                  exact ⟨vk, rfl, by rw [HVK.out]; exact ab_view H.out.2.2.2.1 HOW.out HR.out.1 (by rw [← HVK.out]; exact VN.out) (.inr (by rw [← HVK.out]; exact LE.out)) (by rw [← HVK.out]; exact LK.out) (.inr (by rw [← HVK.out]; exact GT.out)), HB.out.alloc HB.out.size _⟩
                | some v =>
                  have HNE := hid (show AbI L l text vk ∧ vk.size ≤ 1000 ∧ cntA L vk < cntA L t' from by rw [HVK.out]; exact ⟨ab_next H.out.2.2.2.1 HOW.out HR.out.1 (by rw [← HVK.out]; exact VN.out) (.inr (by rw [← HVK.out]; exact LE.out)) (by rw [← HVK.out]; exact LKC), (by obtain ⟨v2, -, -, -, h5⟩ := vk_some H.out.2.2.2.1 (text := t') (by rw [← HVK.out]; exact VN.out); have := (isKey_size h5).2; omega), cnt_less H.out.2.2.2.1 (by rw [← HVK.out]; exact VN.out)⟩)
                  obtain ⟨ck, ci, ct⟩ := v
                  have LK := hid LKC
                  clear LKC
                  have vo : (vk.toList == own.toList) = false := V.keq_false (V.kl_ne LE.out)
                  go_wp2_with (
                    go_at_call 130
                    refine HN.out.mono ?_
                    rintro e w1 ⟨rfl, hb1⟩
                    have hx1 := HX.out.below hb1
                    have hlk := hx1.lookG vk
                    rw [LK.out] at hlk
                    replace hlk : (Instr.lookup 74 (.map (some M)) (.string vk) true).run Tryz.prog w1 = .ok (.tuple #[vl ck ci ct, .bool true]) w1 := hlk
                    obtain ⟨-, -, -, -, a4, -⟩ := hx1.m.cells
                    rw [H.out.1.wv] at a4
                    have hml1 := hx1.m.lt
                    have HB := hid (below_on HR.out.2.2 hb1)
                    clear hb1 hx1)
                  go_roundw
                  case rel => exact ⟨vk, rfl, hid ⟨HNE.out.1, HNE.out.2.1, HB.out.alloc HB.out.size _⟩⟩
                  case measure => exact HNE.out.2.2
              · have gt : (!Op.bytesLess vk.toList to.toList && !(vk.toList == to.toList)) = true := (gt_eq _ _).trans GC
                have GT := hid GC
                clear GC
                go_wp2_with (
                  go_at_call 130
                  refine HN.out.mono ?_
                  rintro e w1 ⟨rfl, hb1⟩
                  have HB := hid (below_on HR.out.2.2 hb1)
                  clear hb1)
                go_ret
                exact ⟨emp, rfl, ab_gt HR.out.1 (min_view H.out.2.2.2.1 HOW.out HR.out.1 (by rw [← HVK.out]; exact VN.out) (.inr (by rw [← HVK.out]; exact LE.out))) TN.out (by rw [← HVK.out]; exact GT.out), HB.out⟩
end
structure KB (w : World) (g1 g2 g3 mb : Nat) (frm to : ByteArray) : Prop where
  f : w.heap[g1]? = some (.cells #[.string frm] 9 (0, 0))
  m : w.heap[g2]? = some (.cells #[.pointer (some ⟨mb, 0, none⟩)] 73 (0, 0))
  t : w.heap[g3]? = some (.cells #[.string to] 9 (0, 0))
theorem KB.below {w w' : World} {g1 g2 g3 mb : Nat} {frm to : ByteArray} (h : KB w g1 g2 g3 mb frm to) (hb : Below w.heap.size w w') : KB w' g1 g2 g3 mb frm to :=
  ⟨hp_below h.f hb (hp_lt h.f), hp_below h.m hb (hp_lt h.m), hp_below h.t hb (hp_lt h.t)⟩
structure BodyK (l : Nat) (g1 g2 g3 mb : Nat) (frm to : ByteArray) (sv : Vd) (nx : ByteArray → ByteArray) (I : ByteArray → World → Prop) (J : World → Prop) : Prop where
  bx : ∀ {k W}, I k W → KB W g1 g2 g3 mb frm to
  keep : ∀ {k W W'}, I k W → Below W.heap.size W W' → I k W'
  ab : ∀ {k W}, I k W → ∀ text : ByteArray, text.size ≤ 1000 → Calls Tryz.prog 105 #[.pointer (some ⟨mb, 0, none⟩), .string text, .string to] W fun e w' => e = .returned (.string (nx text)) ∧ Below W.heap.size W w'
  se : ∀ {k W}, I k W → Calls Tryz.prog 93 #[.pointer (some ⟨mb, 0, none⟩), .string frm] W fun e w' => e = .returned sv.val ∧ Below W.heap.size W w'
  run : ∀ {k W}, I k W → k ≠ emp → ∀ n, YieldAt Fence.wide n Tryz.prog l #[.string k] W fun e w' => ∃ r, e = .returned (.bool r) ∧ (r = true → I (nx k) w') ∧ (r = false → J w')
def fkey (frm : ByteArray) (sv : Vd) (nx : ByteArray → ByteArray) : ByteArray := if frm ≠ emp ∧ sv.k ≠ 0 then frm else nx frm
def IterK (I : ByteArray → World → Prop) (J : World → Prop) : Ending → World → Prop := fun e w' => e = .returned (.tuple #[]) ∧ (I emp w' ∨ J w')
section
variable {l g1 g2 g3 mb : Nat} {frm to : ByteArray} {sv : Vd} {nx : ByteArray → ByteArray} {I : ByteArray → World → Prop} {J : World → Prop}
-- BEGIN
def KR (I : ByteArray → World → Prop) (_nx : ByteArray → ByteArray) (v : Value) (w : World) : Prop := ∃ k, v = .string k ∧ k.size ≤ 1000 ∧ I k w
set_option maxHeartbeats 3200000 in
theorem iterK_any (H : BodyK l g1 g2 g3 mb frm to sv nx I J) (μ : ByteArray → Nat) (hμ : ∀ k, k ≠ emp → nx k ≠ emp → μ (nx k) < μ k) (hm0 : ∀ k, k ≠ emp → μ emp < μ k) (hz : ∀ t, (nx t).size ≤ 1000) (hf : frm.size ≤ 1000) (w : World) (h : I (fkey frm sv nx) w) :
    Calls Tryz.prog 150 #[.func (.yield l) #[] #[], .pointer (some ⟨g1, 0, none⟩), .pointer (some ⟨g2, 0, none⟩), .pointer (some ⟨g3, 0, none⟩)] w (IterK I J) := by
  have HH := hid H
  have HM := hid (And.intro (show ∀ k, k ≠ emp → μ (nx k) < μ k from fun k hk => by
    by_cases e : nx k = emp
    · rw [e]; exact hm0 k hk
    · exact hμ k hk e) hz)
  have HI := hid h
  have HF := hid hf
  have b := H.bx h
  have c1 := V.cells1 b.f
  have c2 := V.cells1 b.m
  have c3 := V.cells1 b.t
  have HSE := hid (H.se h)
  have l1 := hp_lt b.f
  have l2 := hp_lt b.m
  have l3 := hp_lt b.t
  generalize hP : IterK I J = P
  have HP := hid hP
  clear hP H hμ hm0 hz h hf b
  obtain ⟨vk, vi, vt⟩ := sv
  replace HSE : Hid (Calls Tryz.prog 93 #[.pointer (some ⟨mb, 0, none⟩), .string frm] w fun e w' => e = .returned (vl vk vi vt) ∧ Below w.heap.size w w') := HSE
  have fld : ∀ W, (Instr.field 29 (vl vk vi vt) 0).run Tryz.prog W = .ok (.int .i64 vk) W := fun _ => by kernel_rfl
  by_cases h1 : frm = emp
  · have e1 := V.emp_eq h1
    have hk : fkey frm ⟨vk, vi, vt⟩ nx = nx frm := by unfold fkey; rw [if_neg (fun h => h.1 h1)]
    rw [hk] at HI
    have HAB := hid (HH.out.ab HI.out frm HF.out)
    clear h1 hk HSE
    go_enter Tryz.func150, Tryz.ntmps150
    go_wp2_with (
      go_at_call 105
      refine HAB.out.mono ?_
      rintro e w1 ⟨rfl, hb1⟩
      have HB := hid hb1
      clear hb1)
    go_loopw [5] (fun v wr => Hid (KR I nx v wr)) (fun v _ => μ (strOf v))
    case atStart => exact hid ⟨_, rfl, HM.out.2 _, HH.out.keep HI.out HB.out⟩
    case round =>
      obtain ⟨k, rfl, hks, hI⟩ := hrel.out
      have HK := hid (And.intro hks hI)
      have b := HH.out.bx hI
      have d2 := V.cells1 b.m
      have d3 := V.cells1 b.t
      clear hks hI hrel b
      by_cases h3 : k = emp
      · have e3 := V.emp_eq h3
        have H3 := hid h3
        clear h3
        go_wp2
        go_end0
        rw [← HP.out]
        exact ⟨rfl, .inl (by rw [← H3.out]; exact HK.out.2)⟩
      · have e3 := V.emp_ne h3
        have H3 := hid h3
        clear h3
        obtain ⟨fn, tmps, assign, body, hy, hR⟩ := HH.out.run HK.out.2 H3.out 4
        have HR := hid hR
        clear hR
        go_upto_region 2 with fail
        refine (wpIn_wide (n := 5)).1 ?_
        gi_wp2
        refine HR.out.mono ?_
        rintro e w5 ⟨r, rfl, ht, hf⟩
        cases r
        · have J5 := hid (hf rfl)
          clear ht hf
          gi_wp2
          go_wp2
          go_end0
          rw [← HP.out]
          exact ⟨rfl, .inr J5.out⟩
        · have hI5 := ht rfl
          have b5 := HH.out.bx hI5
          have d2 := V.cells1 b5.m
          have d3 := V.cells1 b5.t
          have HA5 := hid (HH.out.ab hI5 k HK.out.1)
          have HI5 := hid hI5
          clear ht hf hI5 b5
          gi_wp2
          go_wp2_with (
            go_at_call 105
            refine HA5.out.mono ?_
            rintro e w6 ⟨rfl, hb6⟩
            have HB6 := hid hb6
            clear hb6)
          go_roundw
          case rel => exact hid ⟨_, rfl, HM.out.2 _, HH.out.keep HI5.out HB6.out⟩
          case measure => exact HM.out.1 k H3.out
  · have e1 := V.emp_ne h1
    by_cases h2 : vk = 0
    · subst h2
      have hk : fkey frm ⟨0, vi, vt⟩ nx = nx frm := by unfold fkey; rw [if_neg (fun h => h.2 rfl)]
      rw [hk] at HI
      clear h1 hk
      go_enter Tryz.func150, Tryz.ntmps150
      go_wp2_with (first
        | (go_at_call 93
           refine HSE.out.mono ?_
           rintro e w1 ⟨rfl, hb1⟩
           have HI1 := hid (HH.out.keep HI.out hb1)
           have b1 := HH.out.bx HI1.out
           have c1' := V.cells1 b1.f
           have c2' := V.cells1 b1.m
           have c3' := V.cells1 b1.t
           have HAB := hid (HH.out.ab HI1.out frm HF.out)
           clear hb1 b1)
        | (go_at_call 105
           refine HAB.out.mono ?_
           rintro e w2 ⟨rfl, hb2⟩
           have HB := hid hb2
           clear hb2))
      go_loopw [5] (fun v wr => Hid (KR I nx v wr)) (fun v _ => μ (strOf v))
      case atStart => exact hid ⟨_, rfl, HM.out.2 _, HH.out.keep HI1.out HB.out⟩
      case round =>
        obtain ⟨k, rfl, hks, hI⟩ := hrel.out
        have HK := hid (And.intro hks hI)
        have b := HH.out.bx hI
        have d2 := V.cells1 b.m
        have d3 := V.cells1 b.t
        clear hks hI hrel b
        by_cases h3 : k = emp
        · have e3 := V.emp_eq h3
          have H3 := hid h3
          clear h3
          go_wp2
          go_end0
          rw [← HP.out]
          exact ⟨rfl, .inl (by rw [← H3.out]; exact HK.out.2)⟩
        · have e3 := V.emp_ne h3
          have H3 := hid h3
          clear h3
          obtain ⟨fn, tmps, assign, body, hy, hR⟩ := HH.out.run HK.out.2 H3.out 4
          have HR := hid hR
          clear hR
          go_upto_region 2 with fail
          refine (wpIn_wide (n := 5)).1 ?_
          gi_wp2
          refine HR.out.mono ?_
          rintro e w5 ⟨r, rfl, ht, hf⟩
          cases r
          · have J5 := hid (hf rfl)
            clear ht hf
            gi_wp2
            go_wp2
            go_end0
            rw [← HP.out]
            exact ⟨rfl, .inr J5.out⟩
          · have hI5 := ht rfl
            have b5 := HH.out.bx hI5
            have d2 := V.cells1 b5.m
            have d3 := V.cells1 b5.t
            have HA5 := hid (HH.out.ab hI5 k HK.out.1)
            have HI5 := hid hI5
            clear ht hf hI5 b5
            gi_wp2
            go_wp2_with (
              go_at_call 105
              refine HA5.out.mono ?_
              rintro e w6 ⟨rfl, hb6⟩
              have HB6 := hid hb6
              clear hb6)
            go_roundw
            case rel => exact hid ⟨_, rfl, HM.out.2 _, HH.out.keep HI5.out HB6.out⟩
            case measure => exact HM.out.1 k H3.out
    · have h2b : (vk == 0) = false := by simpa using h2
      have hk : fkey frm ⟨vk, vi, vt⟩ nx = frm := by unfold fkey; rw [if_pos ⟨h1, h2⟩]
      rw [hk] at HI
      have H1 := hid h1
      clear h1 hk
      go_enter Tryz.func150, Tryz.ntmps150
      go_upto_region 0 with fail
      refine (wpIn_wide (n := 5)).1 ?_
      gi_wp2_with (
        refine ⟨trivial, ?_⟩
        gi_at_call 93
        refine (callsIn_wide.2 HSE.out).mono ?_
        rintro e w1 ⟨rfl, hb1⟩
        have HI1 := hid (HH.out.keep HI.out hb1)
        have b1 := HH.out.bx HI1.out
        have c1' := V.cells1 b1.f
        have c2' := V.cells1 b1.m
        have c3' := V.cells1 b1.t
        obtain ⟨fn, tmps, assign, body, hy, hR⟩ := HH.out.run HI1.out H1.out 4
        have HR := hid hR
        clear hb1 b1 hR)
      refine HR.out.mono ?_
      rintro e w2 ⟨r, rfl, ht, hf⟩
      cases r
      · have J5 := hid (hf rfl)
        clear ht hf
        gi_wp2
        go_wp2
        go_end0
        rw [← HP.out]
        exact ⟨rfl, .inr J5.out⟩
      · have hI2 := ht rfl
        have b2 := HH.out.bx hI2
        have c1'' := V.cells1 b2.f
        have c2'' := V.cells1 b2.m
        have c3'' := V.cells1 b2.t
        have HAB := hid (HH.out.ab hI2 frm HF.out)
        have HI2 := hid hI2
        clear ht hf hI2 b2
        gi_wp2
        go_wp2_with (
          go_at_call 105
          refine HAB.out.mono ?_
          rintro e w3 ⟨rfl, hb3⟩
          have HB := hid hb3
          clear hb3)
        go_loopw [5] (fun v wr => Hid (KR I nx v wr)) (fun v _ => μ (strOf v))
        case atStart => exact hid ⟨_, rfl, HM.out.2 _, HH.out.keep HI2.out HB.out⟩
        case round =>
          obtain ⟨k, rfl, hks, hI⟩ := hrel.out
          have HK := hid (And.intro hks hI)
          have b := HH.out.bx hI
          have d2 := V.cells1 b.m
          have d3 := V.cells1 b.t
          clear hks hI hrel b
          by_cases h3 : k = emp
          · have e3 := V.emp_eq h3
            have H3 := hid h3
            clear h3
            go_wp2
            go_end0
            rw [← HP.out]
            exact ⟨rfl, .inl (by rw [← H3.out]; exact HK.out.2)⟩
          · have e3 := V.emp_ne h3
            have H3 := hid h3
            clear h3
            obtain ⟨fn, tmps, assign, body, hy, hR⟩ := HH.out.run HK.out.2 H3.out 4
            have HR := hid hR
            clear hR
            go_upto_region 2 with fail
            refine (wpIn_wide (n := 5)).1 ?_
            gi_wp2
            refine HR.out.mono ?_
            rintro e w5 ⟨r, rfl, ht, hf⟩
            cases r
            · have J5 := hid (hf rfl)
              clear ht hf
              gi_wp2
              go_wp2
              go_end0
              rw [← HP.out]
              exact ⟨rfl, .inr J5.out⟩
            · have hI5 := ht rfl
              have b5 := HH.out.bx hI5
              have d2 := V.cells1 b5.m
              have d3 := V.cells1 b5.t
              have HA5 := hid (HH.out.ab hI5 k HK.out.1)
              have HI5 := hid hI5
              clear ht hf hI5 b5
              gi_wp2
              go_wp2_with (
                go_at_call 105
                refine HA5.out.mono ?_
                rintro e w6 ⟨rfl, hb6⟩
                have HB6 := hid hb6
                clear hb6)
              go_roundw
              case rel => exact hid ⟨_, rfl, HM.out.2 _, HH.out.keep HI5.out HB6.out⟩
              case measure => exact HM.out.1 k H3.out
end
end Go.Proofs.YthcoigbkdbkojabGreat
