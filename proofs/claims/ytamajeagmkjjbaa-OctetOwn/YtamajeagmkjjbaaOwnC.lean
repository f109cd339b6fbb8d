import Derived.Test.YtamajeagmkjjbaaOwnB
namespace Go.Proofs.Ytamajeagmkjjbaa
open Go.RowKit

/-- A post without its panics is no weaker. -/
theorem noPanicOut {Q : Exit → Act → World → Prop} (e : Exit) (a : Act) (w : World) (h : NoPanic Q e a w) : Q e a w := by
  cases e <;> first | exact h | exact (h : False).elim

theorem take_past (l : List It) (k : Nat) (h : ¬ k < l.length) : l.take (k + 1) = l.take k := by
  rw [List.take_of_length_le (by omega), List.take_of_length_le (by omega)]

set_option maxRecDepth 100000 in
set_option maxHeartbeats 16000000 in
theorem own_if1 (w' wr : World) (l : List It) (aoL : Option Addr) (capL : Nat) (hcl : l.length ≤ capL) (_hclm : capL ≤ 9223372036854775807) (Hcl : Hid (l ≠ [] → ∃ b off, aoL = some ⟨b, off, none⟩ ∧ ∀ (j : Nat) (x : It), l[j]? = some x → It.at w' b (off + j * 5) x)) (Hok : Hid (∀ x ∈ l, x.ok)) (hsum : sumS l ≤ 100000)
    (p1 q1 p2 q2 k : Nat) (hk : k ≤ 300) (Y t4 t10 t11 t12 t13 t14 t15 t16 t17 t18 t19 t20 t21 t33 t34 t35 t36 t37 t38 t39 t40 t41 t42 t43 t44 t45 t46 t47 t48 t49 t50 t51 t52 t53 t54 t55 t56 t57 t58 t59 t60 t61 t62 t63 t64 t65 t66 t67 t68 t69 t70 t71 t72 t73 t74 t75 t76 t77 t78 t79 t80 t81 t82 t83 t84 t85 t86 t87 t88 t89 t90 t91 t92 t93 t94 t95 t96 t97 t98 t99 t100 t101 t102 t103 t104 t105 t106 t107 t108 t109 t110 t111 t112 t113 t114 t115 t116 t117 t118 t119 t120 t121 t122 t123 t124 t125 t126 t127 t128 t129 t130 t131 t132 t133 t134 t135 t136 t137 t138 t139 t140 t141 t142 t143 t144 t145 t146 t147 t148 t149 t150 t151 t152 t153 t154 t155 t156 t157 t158 t159 t160 t161 t162 t163 t164 t165 t166 t167 t168 t169 t170 t171 t172 t173 t174 t175 t176 t177 t178 t179 t180 t181 t182 t183 t184 t185 t186 t187 t188 t189 t190 t191 t192 t193 t194 t195 t196 t197 t198 t199 t200 t201 : Value) (s t : List Int × Int) (g1 : Option Nat) (ao1 : Option Addr) (c1 : Nat) (g2 : Option Nat) (ao2 : Option Addr) (c2 : Nat)
    (HT : Hid (Two w' wr p1 q1 g1 ao1 c1 s s p2 q2 g2 ao2 c2 t t)) (hsl : s.1.length ≤ 11 * k + sumS (l.take k)) (Q : Exit → Act → World → Prop) (cc : Code) (hc : cL (cB (cL (cR (cP (cB (cR (cL (cR (cR (cR (cR (cR (cR (cO Try.f8.body)))))))))))))) = cc)
    (hQ : ∀ (r4 r10 r11 r12 r13 r14 r15 r16 r17 r18 r19 r20 r21 r33 r34 r35 r36 r37 r38 r39 r40 r41 r42 r43 r44 r45 r46 r47 r48 r49 r50 r51 r52 r53 r54 r55 r56 r57 r58 r59 r60 r61 r62 r63 r64 r65 r66 r67 r68 r69 r70 r71 r72 r73 r74 r75 r76 r77 r78 r79 r80 r81 r82 r83 r84 r85 r86 r87 r88 r89 r90 r91 r92 r93 r94 r95 r96 r97 r98 r99 r100 r101 r102 r103 r104 r105 r106 r107 r108 r109 r110 r111 r112 r113 r114 r115 r116 r117 r118 r119 r120 r121 r122 r123 r124 r125 r126 r127 r128 r129 r130 r131 r132 r133 r134 r135 r136 r137 r138 r139 r140 r141 r142 r143 r144 r145 r146 r147 r148 r149 r150 r151 r152 r153 r154 r155 r156 r157 r158 r159 r160 r161 r162 r163 r164 r165 r166 r167 r168 r169 r170 r171 r172 r173 r174 r175 r176 r177 r178 r179 r180 r181 r182 r183 r184 r185 r186 r187 r188 r189 r190 r191 r192 r193 r194 r195 r196 r197 r198 r199 r200 r201 : Value) (wr : World) (sn : List Int × Int) (gn : Option Nat) (aon : Option Addr) (cn : Nat), Hid (Two w' wr p1 q1 gn aon cn sn sn p2 q2 g2 ao2 c2 t t) → sn.1.length ≤ 11 * (k + 1) + sumS (l.take (k + 1)) → Q Exit.normal { tmps := #[.slice aoL l.length capL, Y, undef, undef, r4, .pointer (some ⟨p1, 0, none⟩), .pointer (some ⟨p2, 0, none⟩), .pointer (some ⟨q1, 0, none⟩), .pointer (some ⟨q2, 0, none⟩), .int .i64 k, r10, r11, r12, r13, r14, r15, r16, r17, r18, r19, r20, r21, .slice aoL l.length capL, .bool false, .bool false, Y, .bool false, .bool false, undef, .agg #[.slice none 0 0, .int .i64 0], .pointer (some ⟨p1, 0, none⟩), .agg #[.slice none 0 0, .int .i64 0], .pointer (some ⟨p2, 0, none⟩), r33, r34, r35, r36, r37, r38, r39, r40, r41, r42, r43, r44, r45, r46, r47, r48, r49, r50, r51, r52, r53, r54, r55, r56, r57, r58, r59, r60, r61, r62, r63, r64, r65, r66, r67, r68, r69, r70, r71, r72, r73, r74, r75, r76, r77, r78, r79, r80, r81, r82, r83, r84, r85, r86, r87, r88, r89, r90, r91, r92, r93, r94, r95, r96, r97, r98, r99, r100, r101, r102, r103, r104, r105, r106, r107, r108, r109, r110, r111, r112, r113, r114, r115, r116, r117, r118, r119, r120, r121, r122, r123, r124, r125, r126, r127, r128, r129, r130, r131, r132, r133, r134, r135, r136, r137, r138, r139, r140, r141, r142, r143, r144, r145, r146, r147, r148, r149, r150, r151, r152, r153, r154, r155, r156, r157, r158, r159, r160, r161, r162, r163, r164, r165, r166, r167, r168, r169, r170, r171, r172, r173, r174, r175, r176, r177, r178, r179, r180, r181, r182, r183, r184, r185, r186, r187, r188, r189, r190, r191, r192, r193, r194, r195, r196, r197, r198, r199, r200, r201, undef, undef, undef, undef, undef, undef, undef, undef, undef, undef, undef, undef, undef, undef, undef], defers := [] } wr) :
    Code.wp Try.prog cc Q { tmps := #[.slice aoL l.length capL, Y, undef, undef, t4, .pointer (some ⟨p1, 0, none⟩), .pointer (some ⟨p2, 0, none⟩), .pointer (some ⟨q1, 0, none⟩), .pointer (some ⟨q2, 0, none⟩), .int .i64 k, t10, t11, t12, t13, t14, t15, t16, t17, t18, t19, t20, t21, .slice aoL l.length capL, .bool false, .bool false, Y, .bool false, .bool false, undef, .agg #[.slice none 0 0, .int .i64 0], .pointer (some ⟨p1, 0, none⟩), .agg #[.slice none 0 0, .int .i64 0], .pointer (some ⟨p2, 0, none⟩), t33, t34, t35, t36, t37, t38, t39, t40, t41, t42, t43, t44, t45, t46, t47, t48, t49, t50, t51, t52, t53, t54, t55, t56, t57, t58, t59, t60, t61, t62, t63, t64, t65, t66, t67, t68, t69, t70, t71, t72, t73, t74, t75, t76, t77, t78, t79, t80, t81, t82, t83, t84, t85, t86, t87, t88, t89, t90, t91, t92, t93, t94, t95, t96, t97, t98, t99, t100, t101, t102, t103, t104, t105, t106, t107, t108, t109, t110, t111, t112, t113, t114, t115, t116, t117, t118, t119, t120, t121, t122, t123, t124, t125, t126, t127, t128, t129, t130, t131, t132, t133, t134, t135, t136, t137, t138, t139, t140, t141, t142, t143, t144, t145, t146, t147, t148, t149, t150, t151, t152, t153, t154, t155, t156, t157, t158, t159, t160, t161, t162, t163, t164, t165, t166, t167, t168, t169, t170, t171, t172, t173, t174, t175, t176, t177, t178, t179, t180, t181, t182, t183, t184, t185, t186, t187, t188, t189, t190, t191, t192, t193, t194, t195, t196, t197, t198, t199, t200, t201, undef, undef, undef, undef, undef, undef, undef, undef, undef, undef, undef, undef, undef, undef, undef], defers := [] } wr := by
  have HQ := hid hQ
  have hpl := sumS_le l k
  clear hQ
  subst hc
  dsimp only [cR, cL, cB, cP, cO, Try.f8]
  refine Code.wp_mono noPanicOut ?_
  by_cases hl : k < l.length
  · obtain ⟨b, off, rfl, hj⟩ := Hcl.out (by intro e; subst e; simp at hl)
    have hcx := hj k l[k] (by simp [hl])
    have hxok := Hok.out l[k] (List.getElem_mem hl)
    have hxs := it_size_le l k hl
    have hst := sumS_take l k hl
    obtain ⟨x, hxe⟩ : ∃ x, x = l[k] := ⟨_, rfl⟩
    rw [← hxe] at hcx hxok hxs hst
    have HX := hid hxok
    have hIt : ∀ wx : World, Below w'.heap.size w' wx → It.at wx b (off + k * 5) x := fun wx hb => by
      obtain ⟨c0, c1, c2, c3, c4⟩ := hcx
      exact ⟨(hb.cell (World.block_lt_of_cell? _ _ c0)).trans c0, (hb.cell (World.block_lt_of_cell? _ _ c1)).trans c1, (hb.cell (World.block_lt_of_cell? _ _ c2)).trans c2, (hb.cell (World.block_lt_of_cell? _ _ c3)).trans c3, (hb.cell (World.block_lt_of_cell? _ _ c4)).trans c4⟩
    have HIt := hid hIt
    clear hIt hcx hj hxok hxe
    have hi1 : (k : Int) < (l.length : Int) := by omega
    have hi0 : (0 : Int) ≤ (k : Int) := by omega
    have hll := layZ_len s x
    obtain ⟨Tz, hTz⟩ : ∃ Tz, Tz = layZ s x := ⟨_, rfl⟩
    have HT1z := hid hTz.symm
    have HT2z := hid (show rlayZ s x = Tz by rw [hTz, lay_eq])
    rw [← hTz] at hll
    clear hTz
    obtain ⟨c0, c1', c2', c3, c4⟩ := HIt.out _ HT.out.l1.bel
    go_wp2_with fail
    refine (lay_any w'.heap.size p1 g1 s.1 s.2 _ x HT.out.l1.wr HT.out.l1.bel.size HX.out (by omega) (by omega)).mono ?_
    rintro y w1 ⟨rfl, hstp⟩
    rw [HT1z.out] at hstp
    obtain ⟨gn, hT1⟩ := HT.out.lay (s := Tz) hstp
    have HTa := hid hT1
    clear hstp hT1 HT c0 c1' c2' c3 c4
    obtain ⟨c0, c1', c2', c3, c4⟩ := HIt.out w1 HTa.out.l1.bel
    obtain ⟨d0, d1⟩ := cell_of_pair HTa.out.l1.xb
    have hz1 := HTa.out.l1.ge.2.2.2.1
    have hz1b := HTa.out.l1.ge.2.2.2.2
    go_wp2_with fail
    go_region_with (go_at_call 12; refine (rlay_any _ s x _ HTa.out.l1.sn.drew HX.out (by omega) (by omega)).mono ?_; rw [HT2z.out]; rintro y w2 ⟨v2, rfl, hs2, hb2, hf2⟩; obtain ⟨aon, cn, rfl⟩ := hs2.form; have hq2 := (hb2.block q1 (by simp; omega)).trans HTa.out.l1.xb; obtain ⟨e0, e1⟩ := cell_of_pair hq2; have z0 := free_of_block (o := 0) hq2; have z1 := free_of_block (o := 1) hq2; have HS2 := hid hs2; have HB2 := hid hb2; have HF2 := hid hf2; clear hs2 hb2 hf2 hq2)
    all_goals
      have hl3 := HTa.out.laid (t := Tz) ((Below.refl _ w1).drew.trans HB2.out) HS2.out HF2.out
      exact NoPanic.normal (HQ.out _ _ _ _ _ _ _ _ _ _ _ _ _ _ _ _ _ _ _ _ _ _ _ _ _ _ _ _ _ _ _ _ _ _ _ _ _ _ _ _ _ _ _ _ _ _ _ _ _ _ _ _ _ _ _ _ _ _ _ _ _ _ _ _ _ _ _ _ _ _ _ _ _ _ _ _ _ _ _ _ _ _ _ _ _ _ _ _ _ _ _ _ _ _ _ _ _ _ _ _ _ _ _ _ _ _ _ _ _ _ _ _ _ _ _ _ _ _ _ _ _ _ _ _ _ _ _ _ _ _ _ _ _ _ _ _ _ _ _ _ _ _ _ _ _ _ _ _ _ _ _ _ _ _ _ _ _ _ _ _ _ _ _ _ _ _ _ _ _ _ _ _ _ _ _ _ _ _ _ _ _ _ _ Tz gn aon cn (hid hl3) (by omega))
  · have hi1 : (l.length : Int) ≤ (k : Int) := by omega
    go_wp2_with fail
    exact NoPanic.normal (HQ.out _ _ _ _ _ _ _ _ _ _ _ _ _ _ _ _ _ _ _ _ _ _ _ _ _ _ _ _ _ _ _ _ _ _ _ _ _ _ _ _ _ _ _ _ _ _ _ _ _ _ _ _ _ _ _ _ _ _ _ _ _ _ _ _ _ _ _ _ _ _ _ _ _ _ _ _ _ _ _ _ _ _ _ _ _ _ _ _ _ _ _ _ _ _ _ _ _ _ _ _ _ _ _ _ _ _ _ _ _ _ _ _ _ _ _ _ _ _ _ _ _ _ _ _ _ _ _ _ _ _ _ _ _ _ _ _ _ _ _ _ _ _ _ _ _ _ _ _ _ _ _ _ _ _ _ _ _ _ _ _ _ _ _ _ _ _ _ _ _ _ _ _ _ _ _ _ _ _ _ _ _ _ _ s g1 ao1 c1 HT (by rw [take_past l k hl]; omega))

set_option maxRecDepth 100000 in
set_option maxHeartbeats 16000000 in
theorem own_if2 (w' wr : World) (m : List It) (aoL : Option Addr) (capL : Nat) (hcl : m.length ≤ capL) (_hclm : capL ≤ 9223372036854775807) (Hcl : Hid (m ≠ [] → ∃ b off, aoL = some ⟨b, off, none⟩ ∧ ∀ (j : Nat) (x : It), m[j]? = some x → It.at w' b (off + j * 5) x)) (Hok : Hid (∀ x ∈ m, x.ok)) (hsum : sumS m ≤ 100000)
    (p1 q1 p2 q2 k : Nat) (hk : k ≤ 300) (Y t4 t10 t11 t12 t13 t14 t15 t16 t17 t18 t19 t20 t21 t33 t34 t35 t36 t37 t38 t39 t40 t41 t42 t43 t44 t45 t46 t47 t48 t49 t50 t51 t52 t53 t54 t55 t56 t57 t58 t59 t60 t61 t62 t63 t64 t65 t66 t67 t68 t69 t70 t71 t72 t73 t74 t75 t76 t77 t78 t79 t80 t81 t82 t83 t84 t85 t86 t87 t88 t89 t90 t91 t92 t93 t94 t95 t96 t97 t98 t99 t100 t101 t102 t103 t104 t105 t106 t107 t108 t109 t110 t111 t112 t113 t114 t115 t116 t117 t118 t119 t120 t121 t122 t123 t124 t125 t126 t127 t128 t129 t130 t131 t132 t133 t134 t135 t136 t137 t138 t139 t140 t141 t142 t143 t144 t145 t146 t147 t148 t149 t150 t151 t152 t153 t154 t155 t156 t157 t158 t159 t160 t161 t162 t163 t164 t165 t166 t167 t168 t169 t170 t171 t172 t173 t174 t175 t176 t177 t178 t179 t180 t181 t182 t183 t184 t185 t186 t187 t188 t189 t190 t191 t192 t193 t194 t195 t196 t197 t198 t199 t200 t201 : Value) (s t : List Int × Int) (g1 : Option Nat) (ao1 : Option Addr) (c1 : Nat) (g2 : Option Nat) (ao2 : Option Addr) (c2 : Nat)
    (HT : Hid (Two w' wr p1 q1 g1 ao1 c1 s s p2 q2 g2 ao2 c2 t t)) (hsl : t.1.length ≤ 11 * k + sumS (m.take k)) (Q : Exit → Act → World → Prop) (cc : Code) (hc : cL (cR (cB (cL (cR (cP (cB (cR (cL (cR (cR (cR (cR (cR (cR (cO Try.f8.body))))))))))))))) = cc)
    (hQ : ∀ (r4 r10 r11 r12 r13 r14 r15 r16 r17 r18 r19 r20 r21 r33 r34 r35 r36 r37 r38 r39 r40 r41 r42 r43 r44 r45 r46 r47 r48 r49 r50 r51 r52 r53 r54 r55 r56 r57 r58 r59 r60 r61 r62 r63 r64 r65 r66 r67 r68 r69 r70 r71 r72 r73 r74 r75 r76 r77 r78 r79 r80 r81 r82 r83 r84 r85 r86 r87 r88 r89 r90 r91 r92 r93 r94 r95 r96 r97 r98 r99 r100 r101 r102 r103 r104 r105 r106 r107 r108 r109 r110 r111 r112 r113 r114 r115 r116 r117 r118 r119 r120 r121 r122 r123 r124 r125 r126 r127 r128 r129 r130 r131 r132 r133 r134 r135 r136 r137 r138 r139 r140 r141 r142 r143 r144 r145 r146 r147 r148 r149 r150 r151 r152 r153 r154 r155 r156 r157 r158 r159 r160 r161 r162 r163 r164 r165 r166 r167 r168 r169 r170 r171 r172 r173 r174 r175 r176 r177 r178 r179 r180 r181 r182 r183 r184 r185 r186 r187 r188 r189 r190 r191 r192 r193 r194 r195 r196 r197 r198 r199 r200 r201 : Value) (wr : World) (sn : List Int × Int) (gn : Option Nat) (aon : Option Addr) (cn : Nat), Hid (Two w' wr p1 q1 g1 ao1 c1 s s p2 q2 gn aon cn sn sn) → sn.1.length ≤ 11 * (k + 1) + sumS (m.take (k + 1)) → Q Exit.normal { tmps := #[Y, .slice aoL m.length capL, undef, undef, r4, .pointer (some ⟨p1, 0, none⟩), .pointer (some ⟨p2, 0, none⟩), .pointer (some ⟨q1, 0, none⟩), .pointer (some ⟨q2, 0, none⟩), .int .i64 k, r10, r11, r12, r13, r14, r15, r16, r17, r18, r19, r20, r21, Y, .bool false, .bool false, .slice aoL m.length capL, .bool false, .bool false, undef, .agg #[.slice none 0 0, .int .i64 0], .pointer (some ⟨p1, 0, none⟩), .agg #[.slice none 0 0, .int .i64 0], .pointer (some ⟨p2, 0, none⟩), r33, r34, r35, r36, r37, r38, r39, r40, r41, r42, r43, r44, r45, r46, r47, r48, r49, r50, r51, r52, r53, r54, r55, r56, r57, r58, r59, r60, r61, r62, r63, r64, r65, r66, r67, r68, r69, r70, r71, r72, r73, r74, r75, r76, r77, r78, r79, r80, r81, r82, r83, r84, r85, r86, r87, r88, r89, r90, r91, r92, r93, r94, r95, r96, r97, r98, r99, r100, r101, r102, r103, r104, r105, r106, r107, r108, r109, r110, r111, r112, r113, r114, r115, r116, r117, r118, r119, r120, r121, r122, r123, r124, r125, r126, r127, r128, r129, r130, r131, r132, r133, r134, r135, r136, r137, r138, r139, r140, r141, r142, r143, r144, r145, r146, r147, r148, r149, r150, r151, r152, r153, r154, r155, r156, r157, r158, r159, r160, r161, r162, r163, r164, r165, r166, r167, r168, r169, r170, r171, r172, r173, r174, r175, r176, r177, r178, r179, r180, r181, r182, r183, r184, r185, r186, r187, r188, r189, r190, r191, r192, r193, r194, r195, r196, r197, r198, r199, r200, r201, undef, undef, undef, undef, undef, undef, undef, undef, undef, undef, undef, undef, undef, undef, undef], defers := [] } wr) :
    Code.wp Try.prog cc Q { tmps := #[Y, .slice aoL m.length capL, undef, undef, t4, .pointer (some ⟨p1, 0, none⟩), .pointer (some ⟨p2, 0, none⟩), .pointer (some ⟨q1, 0, none⟩), .pointer (some ⟨q2, 0, none⟩), .int .i64 k, t10, t11, t12, t13, t14, t15, t16, t17, t18, t19, t20, t21, Y, .bool false, .bool false, .slice aoL m.length capL, .bool false, .bool false, undef, .agg #[.slice none 0 0, .int .i64 0], .pointer (some ⟨p1, 0, none⟩), .agg #[.slice none 0 0, .int .i64 0], .pointer (some ⟨p2, 0, none⟩), t33, t34, t35, t36, t37, t38, t39, t40, t41, t42, t43, t44, t45, t46, t47, t48, t49, t50, t51, t52, t53, t54, t55, t56, t57, t58, t59, t60, t61, t62, t63, t64, t65, t66, t67, t68, t69, t70, t71, t72, t73, t74, t75, t76, t77, t78, t79, t80, t81, t82, t83, t84, t85, t86, t87, t88, t89, t90, t91, t92, t93, t94, t95, t96, t97, t98, t99, t100, t101, t102, t103, t104, t105, t106, t107, t108, t109, t110, t111, t112, t113, t114, t115, t116, t117, t118, t119, t120, t121, t122, t123, t124, t125, t126, t127, t128, t129, t130, t131, t132, t133, t134, t135, t136, t137, t138, t139, t140, t141, t142, t143, t144, t145, t146, t147, t148, t149, t150, t151, t152, t153, t154, t155, t156, t157, t158, t159, t160, t161, t162, t163, t164, t165, t166, t167, t168, t169, t170, t171, t172, t173, t174, t175, t176, t177, t178, t179, t180, t181, t182, t183, t184, t185, t186, t187, t188, t189, t190, t191, t192, t193, t194, t195, t196, t197, t198, t199, t200, t201, undef, undef, undef, undef, undef, undef, undef, undef, undef, undef, undef, undef, undef, undef, undef], defers := [] } wr := by
  have HQ := hid hQ
  have hpl := sumS_le m k
  clear hQ
  subst hc
  dsimp only [cR, cL, cB, cP, cO, Try.f8]
  refine Code.wp_mono noPanicOut ?_
  by_cases hl : k < m.length
  · obtain ⟨b, off, rfl, hj⟩ := Hcl.out (by intro e; subst e; simp at hl)
    have hcx := hj k m[k] (by simp [hl])
    have hxok := Hok.out m[k] (List.getElem_mem hl)
    have hxs := it_size_le m k hl
    have hst := sumS_take m k hl
    obtain ⟨x, hxe⟩ : ∃ x, x = m[k] := ⟨_, rfl⟩
    rw [← hxe] at hcx hxok hxs hst
    have HX := hid hxok
    have hIt : ∀ wx : World, Below w'.heap.size w' wx → It.at wx b (off + k * 5) x := fun wx hb => by
      obtain ⟨c0, c1, c2, c3, c4⟩ := hcx
      exact ⟨(hb.cell (World.block_lt_of_cell? _ _ c0)).trans c0, (hb.cell (World.block_lt_of_cell? _ _ c1)).trans c1, (hb.cell (World.block_lt_of_cell? _ _ c2)).trans c2, (hb.cell (World.block_lt_of_cell? _ _ c3)).trans c3, (hb.cell (World.block_lt_of_cell? _ _ c4)).trans c4⟩
    have HIt := hid hIt
    clear hIt hcx hj hxok hxe
    have hi1 : (k : Int) < (m.length : Int) := by omega
    have hi0 : (0 : Int) ≤ (k : Int) := by omega
    have hll := layZ_len t x
    obtain ⟨Tz, hTz⟩ : ∃ Tz, Tz = layZ t x := ⟨_, rfl⟩
    have HT1z := hid hTz.symm
    have HT2z := hid (show rlayZ t x = Tz by rw [hTz, lay_eq])
    rw [← hTz] at hll
    clear hTz
    obtain ⟨c0, c1', c2', c3, c4⟩ := HIt.out _ HT.out.l2.bel
    go_wp2_with fail
    refine (lay_any w'.heap.size p2 g2 t.1 t.2 _ x HT.out.l2.wr HT.out.l2.bel.size HX.out (by omega) (by omega)).mono ?_
    rintro y w1 ⟨rfl, hstp⟩
    rw [HT1z.out] at hstp
    obtain ⟨gn, hT1⟩ := HT.out.swap.lay (s := Tz) hstp
    have HTa := hid hT1
    clear hstp hT1 HT c0 c1' c2' c3 c4
    obtain ⟨c0, c1', c2', c3, c4⟩ := HIt.out w1 HTa.out.l1.bel
    obtain ⟨d0, d1⟩ := cell_of_pair HTa.out.l1.xb
    have hz1 := HTa.out.l1.ge.2.2.2.1
    have hz1b := HTa.out.l1.ge.2.2.2.2
    go_wp2_with fail
    go_region_with (go_at_call 12; refine (rlay_any _ t x _ HTa.out.l1.sn.drew HX.out (by omega) (by omega)).mono ?_; rw [HT2z.out]; rintro y w2 ⟨v2, rfl, hs2, hb2, hf2⟩; obtain ⟨aon, cn, rfl⟩ := hs2.form; have hq2 := (hb2.block q2 (by simp; omega)).trans HTa.out.l1.xb; obtain ⟨e0, e1⟩ := cell_of_pair hq2; have z0 := free_of_block (o := 0) hq2; have z1 := free_of_block (o := 1) hq2; have HS2 := hid hs2; have HB2 := hid hb2; have HF2 := hid hf2; clear hs2 hb2 hf2 hq2)
    all_goals
      have hl3 := (HTa.out.laid (t := Tz) ((Below.refl _ w1).drew.trans HB2.out) HS2.out HF2.out).swap
      exact NoPanic.normal (HQ.out _ _ _ _ _ _ _ _ _ _ _ _ _ _ _ _ _ _ _ _ _ _ _ _ _ _ _ _ _ _ _ _ _ _ _ _ _ _ _ _ _ _ _ _ _ _ _ _ _ _ _ _ _ _ _ _ _ _ _ _ _ _ _ _ _ _ _ _ _ _ _ _ _ _ _ _ _ _ _ _ _ _ _ _ _ _ _ _ _ _ _ _ _ _ _ _ _ _ _ _ _ _ _ _ _ _ _ _ _ _ _ _ _ _ _ _ _ _ _ _ _ _ _ _ _ _ _ _ _ _ _ _ _ _ _ _ _ _ _ _ _ _ _ _ _ _ _ _ _ _ _ _ _ _ _ _ _ _ _ _ _ _ _ _ _ _ _ _ _ _ _ _ _ _ _ _ _ _ _ _ _ _ _ Tz gn aon cn (hid hl3) (by omega))
  · have hi1 : (m.length : Int) ≤ (k : Int) := by omega
    go_wp2_with fail
    exact NoPanic.normal (HQ.out _ _ _ _ _ _ _ _ _ _ _ _ _ _ _ _ _ _ _ _ _ _ _ _ _ _ _ _ _ _ _ _ _ _ _ _ _ _ _ _ _ _ _ _ _ _ _ _ _ _ _ _ _ _ _ _ _ _ _ _ _ _ _ _ _ _ _ _ _ _ _ _ _ _ _ _ _ _ _ _ _ _ _ _ _ _ _ _ _ _ _ _ _ _ _ _ _ _ _ _ _ _ _ _ _ _ _ _ _ _ _ _ _ _ _ _ _ _ _ _ _ _ _ _ _ _ _ _ _ _ _ _ _ _ _ _ _ _ _ _ _ _ _ _ _ _ _ _ _ _ _ _ _ _ _ _ _ _ _ _ _ _ _ _ _ _ _ _ _ _ _ _ _ _ _ _ _ _ _ _ _ _ _ t g2 ao2 c2 HT (by rw [take_past m k hl]; omega))

end Go.Proofs.Ytamajeagmkjjbaa
