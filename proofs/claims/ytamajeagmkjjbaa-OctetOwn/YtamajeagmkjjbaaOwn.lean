import Derived.Test.YtamajeagmkjjbaaOwnC
namespace Go.Proofs.Ytamajeagmkjjbaa
open Go.RowKit

theorem ls_new (w0 w : World) (p q : Nat) (hp : w.heap[p]? = some (.cells #[.slice none 0 0, .int .i64 0] 29 (0, 0))) (hq : w.heap[q]? = some (.cells #[.slice none 0 0, .int .i64 0] 31 (0, 0))) (h0 : w0.heap.size ≤ p) (h1 : w0.heap.size ≤ q) (hne : p ≠ q) (hb : Below w0.heap.size w0 w) : LS w0 w p q none none 0 ([], 0) ([], 0) :=
  ⟨⟨_, hp, rfl, World.ownsRow_nil _ _ _ _⟩, hq, sn_nil _, hb, ⟨h0, h1, hne, (Array.getElem?_eq_some_iff.1 hp).1, (Array.getElem?_eq_some_iff.1 hq).1⟩, (fun k h => by cases h), (fun k h => by cases h)⟩

theorem two_new (w : World) (A B : Obj) (hA : A = .cells #[.slice none 0 0, .int .i64 0] 29) (hB : B = .cells #[.slice none 0 0, .int .i64 0] 31) : Two w ((((w.alloc A).alloc A).alloc B).alloc B) w.heap.size (w.heap.size + 2) none none 0 ([], 0) ([], 0) (w.heap.size + 1) (w.heap.size + 3) none none 0 ([], 0) ([], 0) := by
  have e0 : ((((w.alloc A).alloc A).alloc B).alloc B).heap[w.heap.size]? = some A := by
    rw [Below.heap_alloc _ _ _ (by simp; omega), Below.heap_alloc _ _ _ (by simp; omega), Below.heap_alloc _ _ _ (by simp)]; exact heap_alloc_new w A
  have e1 : ((((w.alloc A).alloc A).alloc B).alloc B).heap[w.heap.size + 1]? = some A := by
    rw [Below.heap_alloc _ _ _ (by simp), Below.heap_alloc _ _ _ (by simp)]; have := heap_alloc_new (w.alloc A) A; simpa using this
  have e2 : ((((w.alloc A).alloc A).alloc B).alloc B).heap[w.heap.size + 2]? = some B := by
    rw [Below.heap_alloc _ _ _ (by simp)]; have := heap_alloc_new ((w.alloc A).alloc A) B; simpa using this
  have e3 : ((((w.alloc A).alloc A).alloc B).alloc B).heap[w.heap.size + 3]? = some B := by
    have := heap_alloc_new (((w.alloc A).alloc A).alloc B) B; simpa using this
  have hb : Below w.heap.size w ((((w.alloc A).alloc A).alloc B).alloc B) := ((((Below.refl _ _).alloc (Nat.le_refl _) _).alloc (by simp) _).alloc (by simp; omega) _).alloc (by simp; omega) _
  subst hA hB
  refine ⟨ls_new _ _ _ _ e0 e2 (Nat.le_refl _) (by omega) (by omega) hb, ls_new _ _ _ _ e1 e3 (by omega) (by omega) (by omega) hb, ?_⟩
  rintro k (e | e | e | e) (f | f | f | f)
  all_goals first | omega | (cases e; done) | (cases f; done) | (simp [ob, Value.ownBlock] at f; done) | (simp [ob, Value.ownBlock] at e; done)

theorem belTrans {w c d : World} (h : Below w.heap.size w c) (k : Below c.heap.size c d) : Below w.heap.size w d := h.trans (k.mono h.size)

set_option maxRecDepth 100000 in
set_option maxHeartbeats 16000000 in
theorem own_body (w' : World) (l m : List It) (aol aom : Option Addr) (capl capm : Nat) (hcl : l.length ≤ capl) (hclm : capl ≤ 9223372036854775807) (Hcl : Hid (l ≠ [] → ∃ b off, aol = some ⟨b, off, none⟩ ∧ ∀ (j : Nat) (x : It), l[j]? = some x → It.at w' b (off + j * 5) x)) (Hokl : Hid (∀ x ∈ l, x.ok)) (hsuml : sumS l ≤ 100000)
    (hcm : m.length ≤ capm) (hcmm : capm ≤ 9223372036854775807) (Hcm : Hid (m ≠ [] → ∃ b off, aom = some ⟨b, off, none⟩ ∧ ∀ (j : Nat) (x : It), m[j]? = some x → It.at w' b (off + j * 5) x)) (Hokm : Hid (∀ x ∈ m, x.ok)) (hsumm : sumS m ≤ 100000)
    (wr : World) (p1 q1 p2 q2 k : Nat) (hk : k < 300) (t4 t10 t11 t12 t13 t14 t15 t16 t17 t18 t19 t20 t21 t33 t34 t35 t36 t37 t38 t39 t40 t41 t42 t43 t44 t45 t46 t47 t48 t49 t50 t51 t52 t53 t54 t55 t56 t57 t58 t59 t60 t61 t62 t63 t64 t65 t66 t67 t68 t69 t70 t71 t72 t73 t74 t75 t76 t77 t78 t79 t80 t81 t82 t83 t84 t85 t86 t87 t88 t89 t90 t91 t92 t93 t94 t95 t96 t97 t98 t99 t100 t101 t102 t103 t104 t105 t106 t107 t108 t109 t110 t111 t112 t113 t114 t115 t116 t117 t118 t119 t120 t121 t122 t123 t124 t125 t126 t127 t128 t129 t130 t131 t132 t133 t134 t135 t136 t137 t138 t139 t140 t141 t142 t143 t144 t145 t146 t147 t148 t149 t150 t151 t152 t153 t154 t155 t156 t157 t158 t159 t160 t161 t162 t163 t164 t165 t166 t167 t168 t169 t170 t171 t172 t173 t174 t175 t176 t177 t178 t179 t180 t181 t182 t183 t184 t185 t186 t187 t188 t189 t190 t191 t192 t193 t194 t195 t196 t197 t198 t199 t200 t201 : Value) (s t : List Int × Int) (g1 : Option Nat) (ao1 : Option Addr) (c1 : Nat) (g2 : Option Nat) (ao2 : Option Addr) (c2 : Nat)
    (HT : Hid (Two w' wr p1 q1 g1 ao1 c1 s s p2 q2 g2 ao2 c2 t t)) (hsl : s.1.length ≤ 11 * k + sumS (l.take k)) (htl : t.1.length ≤ 11 * k + sumS (m.take k)) (Q : Exit → Act → World → Prop) (cc : Code) (hc : cB (cL (cR (cP (cB (cR (cL (cR (cR (cR (cR (cR (cR (cO Try.f8.body))))))))))))) = cc)
    (hQ : ∀ (r4 r10 r11 r12 r13 r14 r15 r16 r17 r18 r19 r20 r21 r33 r34 r35 r36 r37 r38 r39 r40 r41 r42 r43 r44 r45 r46 r47 r48 r49 r50 r51 r52 r53 r54 r55 r56 r57 r58 r59 r60 r61 r62 r63 r64 r65 r66 r67 r68 r69 r70 r71 r72 r73 r74 r75 r76 r77 r78 r79 r80 r81 r82 r83 r84 r85 r86 r87 r88 r89 r90 r91 r92 r93 r94 r95 r96 r97 r98 r99 r100 r101 r102 r103 r104 r105 r106 r107 r108 r109 r110 r111 r112 r113 r114 r115 r116 r117 r118 r119 r120 r121 r122 r123 r124 r125 r126 r127 r128 r129 r130 r131 r132 r133 r134 r135 r136 r137 r138 r139 r140 r141 r142 r143 r144 r145 r146 r147 r148 r149 r150 r151 r152 r153 r154 r155 r156 r157 r158 r159 r160 r161 r162 r163 r164 r165 r166 r167 r168 r169 r170 r171 r172 r173 r174 r175 r176 r177 r178 r179 r180 r181 r182 r183 r184 r185 r186 r187 r188 r189 r190 r191 r192 r193 r194 r195 r196 r197 r198 r199 r200 r201 : Value) (wr : World) (s : List Int × Int) (g1 : Option Nat) (ao1 : Option Addr) (c1 : Nat) (t : List Int × Int) (g2 : Option Nat) (ao2 : Option Addr) (c2 : Nat), Hid (Two w' wr p1 q1 g1 ao1 c1 s s p2 q2 g2 ao2 c2 t t) → s.1.length ≤ 11 * (k + 1) + sumS (l.take (k + 1)) → t.1.length ≤ 11 * (k + 1) + sumS (m.take (k + 1)) → Q Exit.normal { tmps := #[.slice aol l.length capl, .slice aom m.length capm, undef, undef, r4, .pointer (some ⟨p1, 0, none⟩), .pointer (some ⟨p2, 0, none⟩), .pointer (some ⟨q1, 0, none⟩), .pointer (some ⟨q2, 0, none⟩), .int .i64 k, r10, r11, r12, r13, r14, r15, r16, r17, r18, r19, r20, r21, .slice aol l.length capl, .bool false, .bool false, .slice aom m.length capm, .bool false, .bool false, undef, .agg #[.slice none 0 0, .int .i64 0], .pointer (some ⟨p1, 0, none⟩), .agg #[.slice none 0 0, .int .i64 0], .pointer (some ⟨p2, 0, none⟩), r33, r34, r35, r36, r37, r38, r39, r40, r41, r42, r43, r44, r45, r46, r47, r48, r49, r50, r51, r52, r53, r54, r55, r56, r57, r58, r59, r60, r61, r62, r63, r64, r65, r66, r67, r68, r69, r70, r71, r72, r73, r74, r75, r76, r77, r78, r79, r80, r81, r82, r83, r84, r85, r86, r87, r88, r89, r90, r91, r92, r93, r94, r95, r96, r97, r98, r99, r100, r101, r102, r103, r104, r105, r106, r107, r108, r109, r110, r111, r112, r113, r114, r115, r116, r117, r118, r119, r120, r121, r122, r123, r124, r125, r126, r127, r128, r129, r130, r131, r132, r133, r134, r135, r136, r137, r138, r139, r140, r141, r142, r143, r144, r145, r146, r147, r148, r149, r150, r151, r152, r153, r154, r155, r156, r157, r158, r159, r160, r161, r162, r163, r164, r165, r166, r167, r168, r169, r170, r171, r172, r173, r174, r175, r176, r177, r178, r179, r180, r181, r182, r183, r184, r185, r186, r187, r188, r189, r190, r191, r192, r193, r194, r195, r196, r197, r198, r199, r200, r201, undef, undef, undef, undef, undef, undef, undef, undef, undef, undef, undef, undef, undef, undef, undef], defers := [] } wr) :
    Code.wp Try.prog cc Q { tmps := #[.slice aol l.length capl, .slice aom m.length capm, undef, undef, t4, .pointer (some ⟨p1, 0, none⟩), .pointer (some ⟨p2, 0, none⟩), .pointer (some ⟨q1, 0, none⟩), .pointer (some ⟨q2, 0, none⟩), .int .i64 k, t10, t11, t12, t13, t14, t15, t16, t17, t18, t19, t20, t21, .slice aol l.length capl, .bool false, .bool false, .slice aom m.length capm, .bool false, .bool false, undef, .agg #[.slice none 0 0, .int .i64 0], .pointer (some ⟨p1, 0, none⟩), .agg #[.slice none 0 0, .int .i64 0], .pointer (some ⟨p2, 0, none⟩), t33, t34, t35, t36, t37, t38, t39, t40, t41, t42, t43, t44, t45, t46, t47, t48, t49, t50, t51, t52, t53, t54, t55, t56, t57, t58, t59, t60, t61, t62, t63, t64, t65, t66, t67, t68, t69, t70, t71, t72, t73, t74, t75, t76, t77, t78, t79, t80, t81, t82, t83, t84, t85, t86, t87, t88, t89, t90, t91, t92, t93, t94, t95, t96, t97, t98, t99, t100, t101, t102, t103, t104, t105, t106, t107, t108, t109, t110, t111, t112, t113, t114, t115, t116, t117, t118, t119, t120, t121, t122, t123, t124, t125, t126, t127, t128, t129, t130, t131, t132, t133, t134, t135, t136, t137, t138, t139, t140, t141, t142, t143, t144, t145, t146, t147, t148, t149, t150, t151, t152, t153, t154, t155, t156, t157, t158, t159, t160, t161, t162, t163, t164, t165, t166, t167, t168, t169, t170, t171, t172, t173, t174, t175, t176, t177, t178, t179, t180, t181, t182, t183, t184, t185, t186, t187, t188, t189, t190, t191, t192, t193, t194, t195, t196, t197, t198, t199, t200, t201, undef, undef, undef, undef, undef, undef, undef, undef, undef, undef, undef, undef, undef, undef, undef], defers := [] } wr := by
  subst hc
  have hpl := sumS_le l (k + 1)
  have hpm := sumS_le m (k + 1)
  show Code.wp Try.prog (Code.seq (cL (cB (cL (cR (cP (cB (cR (cL (cR (cR (cR (cR (cR (cR (cO Try.f8.body))))))))))))))) (cR (cB (cL (cR (cP (cB (cR (cL (cR (cR (cR (cR (cR (cR (cO Try.f8.body)))))))))))))))) Q _ _
  refine wp_seq ?_
  refine own_if1 w' wr l aol capl hcl hclm Hcl Hokl hsuml p1 q1 p2 q2 k (by omega) _ _ _ _ _ _ _ _ _ _ _ _ _ _ _ _ _ _ _ _ _ _ _ _ _ _ _ _ _ _ _ _ _ _ _ _ _ _ _ _ _ _ _ _ _ _ _ _ _ _ _ _ _ _ _ _ _ _ _ _ _ _ _ _ _ _ _ _ _ _ _ _ _ _ _ _ _ _ _ _ _ _ _ _ _ _ _ _ _ _ _ _ _ _ _ _ _ _ _ _ _ _ _ _ _ _ _ _ _ _ _ _ _ _ _ _ _ _ _ _ _ _ _ _ _ _ _ _ _ _ _ _ _ _ _ _ _ _ _ _ _ _ _ _ _ _ _ _ _ _ _ _ _ _ _ _ _ _ _ _ _ _ _ _ _ _ _ _ _ _ _ _ _ _ _ _ _ _ _ _ _ _ _ s t g1 ao1 c1 g2 ao2 c2 HT hsl _ _ rfl ?_
  intro r4 r10 r11 r12 r13 r14 r15 r16 r17 r18 r19 r20 r21 r33 r34 r35 r36 r37 r38 r39 r40 r41 r42 r43 r44 r45 r46 r47 r48 r49 r50 r51 r52 r53 r54 r55 r56 r57 r58 r59 r60 r61 r62 r63 r64 r65 r66 r67 r68 r69 r70 r71 r72 r73 r74 r75 r76 r77 r78 r79 r80 r81 r82 r83 r84 r85 r86 r87 r88 r89 r90 r91 r92 r93 r94 r95 r96 r97 r98 r99 r100 r101 r102 r103 r104 r105 r106 r107 r108 r109 r110 r111 r112 r113 r114 r115 r116 r117 r118 r119 r120 r121 r122 r123 r124 r125 r126 r127 r128 r129 r130 r131 r132 r133 r134 r135 r136 r137 r138 r139 r140 r141 r142 r143 r144 r145 r146 r147 r148 r149 r150 r151 r152 r153 r154 r155 r156 r157 r158 r159 r160 r161 r162 r163 r164 r165 r166 r167 r168 r169 r170 r171 r172 r173 r174 r175 r176 r177 r178 r179 r180 r181 r182 r183 r184 r185 r186 r187 r188 r189 r190 r191 r192 r193 r194 r195 r196 r197 r198 r199 r200 r201 wr1 sn gn aon cn HT1 hs1
  show Code.wp Try.prog (Code.seq (cL (cR (cB (cL (cR (cP (cB (cR (cL (cR (cR (cR (cR (cR (cR (cO Try.f8.body)))))))))))))))) (cR (cR (cB (cL (cR (cP (cB (cR (cL (cR (cR (cR (cR (cR (cR (cO Try.f8.body))))))))))))))))) Q _ _
  refine wp_seq ?_
  refine own_if2 w' wr1 m aom capm hcm hcmm Hcm Hokm hsumm p1 q1 p2 q2 k (by omega) _ _ _ _ _ _ _ _ _ _ _ _ _ _ _ _ _ _ _ _ _ _ _ _ _ _ _ _ _ _ _ _ _ _ _ _ _ _ _ _ _ _ _ _ _ _ _ _ _ _ _ _ _ _ _ _ _ _ _ _ _ _ _ _ _ _ _ _ _ _ _ _ _ _ _ _ _ _ _ _ _ _ _ _ _ _ _ _ _ _ _ _ _ _ _ _ _ _ _ _ _ _ _ _ _ _ _ _ _ _ _ _ _ _ _ _ _ _ _ _ _ _ _ _ _ _ _ _ _ _ _ _ _ _ _ _ _ _ _ _ _ _ _ _ _ _ _ _ _ _ _ _ _ _ _ _ _ _ _ _ _ _ _ _ _ _ _ _ _ _ _ _ _ _ _ _ _ _ _ _ _ _ _ sn t gn aon cn g2 ao2 c2 HT1 htl _ _ rfl ?_
  intro r4 r10 r11 r12 r13 r14 r15 r16 r17 r18 r19 r20 r21 r33 r34 r35 r36 r37 r38 r39 r40 r41 r42 r43 r44 r45 r46 r47 r48 r49 r50 r51 r52 r53 r54 r55 r56 r57 r58 r59 r60 r61 r62 r63 r64 r65 r66 r67 r68 r69 r70 r71 r72 r73 r74 r75 r76 r77 r78 r79 r80 r81 r82 r83 r84 r85 r86 r87 r88 r89 r90 r91 r92 r93 r94 r95 r96 r97 r98 r99 r100 r101 r102 r103 r104 r105 r106 r107 r108 r109 r110 r111 r112 r113 r114 r115 r116 r117 r118 r119 r120 r121 r122 r123 r124 r125 r126 r127 r128 r129 r130 r131 r132 r133 r134 r135 r136 r137 r138 r139 r140 r141 r142 r143 r144 r145 r146 r147 r148 r149 r150 r151 r152 r153 r154 r155 r156 r157 r158 r159 r160 r161 r162 r163 r164 r165 r166 r167 r168 r169 r170 r171 r172 r173 r174 r175 r176 r177 r178 r179 r180 r181 r182 r183 r184 r185 r186 r187 r188 r189 r190 r191 r192 r193 r194 r195 r196 r197 r198 r199 r200 r201 wr2 tn gn2 aon2 cn2 HT2 ht2
  show Code.wp Try.prog (cR (cR (cB (cL (cR (cP (cB (cR (cL (cR (cR (cR (cR (cR (cR (cO Try.f8.body)))))))))))))))) Q _ _
  refine own_big w' wr2 p1 q1 p2 q2 k _ _ _ _ _ _ _ _ _ _ _ _ _ _ _ _ _ _ _ _ _ _ _ _ _ _ _ _ _ _ _ _ _ _ _ _ _ _ _ _ _ _ _ _ _ _ _ _ _ _ _ _ _ _ _ _ _ _ _ _ _ _ _ _ _ _ _ _ _ _ _ _ _ _ _ _ _ _ _ _ _ _ _ _ _ _ _ _ _ _ _ _ _ _ _ _ _ _ _ _ _ _ _ _ _ _ _ _ _ _ _ _ _ _ _ _ _ _ _ _ _ _ _ _ _ _ _ _ _ _ _ _ _ _ _ _ _ _ _ _ _ _ _ _ _ _ _ _ _ _ _ _ _ _ _ _ _ _ _ _ _ _ _ _ _ _ _ _ _ _ _ _ _ _ _ _ _ _ _ _ _ _ _ _ sn tn gn aon cn gn2 aon2 cn2 HT2 (by omega) (by omega) Q _ rfl ?_
  intro r4 r10 r11 r12 r13 r14 r15 r16 r17 r18 r19 r20 r21 r33 r34 r35 r36 r37 r38 r39 r40 r41 r42 r43 r44 r45 r46 r47 r48 r49 r50 r51 r52 r53 r54 r55 r56 r57 r58 r59 r60 r61 r62 r63 r64 r65 r66 r67 r68 r69 r70 r71 r72 r73 r74 r75 r76 r77 r78 r79 r80 r81 r82 r83 r84 r85 r86 r87 r88 r89 r90 r91 r92 r93 r94 r95 r96 r97 r98 r99 r100 r101 r102 r103 r104 r105 r106 r107 r108 r109 r110 r111 r112 r113 r114 r115 r116 r117 r118 r119 r120 r121 r122 r123 r124 r125 r126 r127 r128 r129 r130 r131 r132 r133 r134 r135 r136 r137 r138 r139 r140 r141 r142 r143 r144 r145 r146 r147 r148 r149 r150 r151 r152 r153 r154 r155 r156 r157 r158 r159 r160 r161 r162 r163 r164 r165 r166 r167 r168 r169 r170 r171 r172 r173 r174 r175 r176 r177 r178 r179 r180 r181 r182 r183 r184 r185 r186 r187 r188 r189 r190 r191 r192 r193 r194 r195 r196 r197 r198 r199 r200 r201 wr3 hk3
  exact hQ _ _ _ _ _ _ _ _ _ _ _ _ _ _ _ _ _ _ _ _ _ _ _ _ _ _ _ _ _ _ _ _ _ _ _ _ _ _ _ _ _ _ _ _ _ _ _ _ _ _ _ _ _ _ _ _ _ _ _ _ _ _ _ _ _ _ _ _ _ _ _ _ _ _ _ _ _ _ _ _ _ _ _ _ _ _ _ _ _ _ _ _ _ _ _ _ _ _ _ _ _ _ _ _ _ _ _ _ _ _ _ _ _ _ _ _ _ _ _ _ _ _ _ _ _ _ _ _ _ _ _ _ _ _ _ _ _ _ _ _ _ _ _ _ _ _ _ _ _ _ _ _ _ _ _ _ _ _ _ _ _ _ _ _ _ _ _ _ _ _ _ _ _ _ _ _ _ _ _ _ _ _ wr3 sn gn aon cn tn gn2 aon2 cn2 (hid (HT2.out.above hk3)) hs1 ht2

set_option maxRecDepth 100000 in
set_option maxHeartbeats 16000000 in
theorem own_any (v1 v2 : Value) (l m : List It) (w : World) (h1 : Its w v1 l) (h2 : Its w v2 m) :
    Calls Try.prog 8 #[v1, v2] w fun x w' => x = .returned (.bool true) ∧ Below w.heap.size w w' := by
  have HM1 := hid (much_any v1 l none 0 0 w h1 (by omega))
  have HM2 := hid (much_any v2 m none 0 0 w h2 (by omega))
  obtain ⟨aol, capl, hv1, hcl, hclm, hokl, hcellsl⟩ := h1
  obtain ⟨aom, capm, hv2, hcm, hcmm, hokm, hcellsm⟩ := h2
  subst hv1 hv2
  have Hcl := hid hcellsl
  have Hokl := hid hokl
  have Hcm := hid hcellsm
  have Hokm := hid hokm
  clear hcellsl hokl hcellsm hokm
  go_enter Try.func8, Try.ntmps8
  go_wp2_with fail
  refine HM1.out.mono ?_
  rintro x w' ⟨hw, r, rfl, hr⟩
  subst hw
  dsimp only
  cases r with
  | true =>
    clear hr
    go_wp2_with fail
    refine (known_any _).mono ?_
    rintro x w1 ⟨rfl, hb⟩
    have HB := hid hb
    clear hb
    go_wp2
    go_ret
    exact ⟨rfl, HB.out⟩
  | false =>
    obtain ⟨hnl, -, hsuml⟩ := hr rfl
    clear hr HM1
    go_wp2_with fail
    refine HM2.out.mono ?_
    rintro x w'' ⟨hw, r, rfl, hr⟩
    have hw2 := hw.symm
    clear hw
    subst hw2
    dsimp only
    cases r with
    | true =>
      clear hr
      go_wp2_with fail
      refine (known_any _).mono ?_
      rintro x w1 ⟨rfl, hb⟩
      have HB := hid hb
      clear hb
      go_wp2
      go_ret
      exact ⟨rfl, HB.out⟩
    | false =>
      obtain ⟨hnm, -, hsumm⟩ := hr rfl
      clear hr HM2
      go_wp2
      obtain ⟨W, hW⟩ : ∃ W, W = (((w'.alloc (.cells #[.slice none 0 0, .int .i64 0] 29)).alloc (.cells #[.slice none 0 0, .int .i64 0] 29)).alloc (.cells #[.slice none 0 0, .int .i64 0] 31)).alloc (.cells #[.slice none 0 0, .int .i64 0] 31) := ⟨_, rfl⟩
      have hT0 := two_new w' _ _ rfl rfl
      rw [← hW] at hT0
      rw [← hW]
      have HT0 := hid hT0
      clear hT0 hW
      generalize hp1 : w'.heap.size = p1 at HT0 ⊢
      rw [show p1 + 1 + 1 + 1 = p1 + 3 from rfl, show p1 + 1 + 1 = p1 + 2 from rfl]
      clear hp1
      generalize p1 + 3 = q2 at *
      generalize p1 + 2 = q1 at *
      generalize p1 + 1 = p2 at *
      go_loopw [9] (fun i wr => ∃ (k : Nat) (g1 : Option Nat) (ao1 : Option Addr) (c1 : Nat) (s : List Int × Int) (g2 : Option Nat) (ao2 : Option Addr) (c2 : Nat) (t : List Int × Int), k ≤ 300 ∧ i = .int .i64 k ∧ Hid (Two w' wr p1 q1 g1 ao1 c1 s s p2 q2 g2 ao2 c2 t t) ∧ s.1.length ≤ 11 * k + sumS (l.take k) ∧ t.1.length ≤ 11 * k + sumS (m.take k))
        (fun i _ => 301 - (intOf i).toNat)
      case atStart => exact ⟨0, none, none, 0, ([], 0), none, none, 0, ([], 0), Nat.zero_le _, rfl, HT0, by simp, by simp⟩
      case round =>
        clear HT0
        obtain ⟨k, g1, ao1, c1, s, g2, ao2, c2, t, hk, rfl, HT, hsl, htl⟩ := hrel
        have hpl := sumS_le l k
        have hpm := sumS_le m k
        refine wp_seq_k ?_
        intro K0 hK0
        have HK0 := hid hK0
        clear hK0
        have Hr0 : Hid (∀ (t4 t10 t11 t12 t13 t14 t15 t16 t17 t18 t19 t20 t21 t33 t34 t35 t36 t37 t38 t39 t40 t41 t42 t43 t44 t45 t46 t47 t48 t49 t50 t51 t52 t53 t54 t55 t56 t57 t58 t59 t60 t61 t62 t63 t64 t65 t66 t67 t68 t69 t70 t71 t72 t73 t74 t75 t76 t77 t78 t79 t80 t81 t82 t83 t84 t85 t86 t87 t88 t89 t90 t91 t92 t93 t94 t95 t96 t97 t98 t99 t100 t101 t102 t103 t104 t105 t106 t107 t108 t109 t110 t111 t112 t113 t114 t115 t116 t117 t118 t119 t120 t121 t122 t123 t124 t125 t126 t127 t128 t129 t130 t131 t132 t133 t134 t135 t136 t137 t138 t139 t140 t141 t142 t143 t144 t145 t146 t147 t148 t149 t150 t151 t152 t153 t154 t155 t156 t157 t158 t159 t160 t161 t162 t163 t164 t165 t166 t167 t168 t169 t170 t171 t172 t173 t174 t175 t176 t177 t178 t179 t180 t181 t182 t183 t184 t185 t186 t187 t188 t189 t190 t191 t192 t193 t194 t195 t196 t197 t198 t199 t200 t201 : Value) (wr : World), k < 300 → Hid (Two w' wr p1 q1 g1 ao1 c1 s s p2 q2 g2 ao2 c2 t t) → K0 { tmps := #[.slice aol l.length capl, .slice aom m.length capm, undef, undef, t4, .pointer (some ⟨p1, 0, none⟩), .pointer (some ⟨p2, 0, none⟩), .pointer (some ⟨q1, 0, none⟩), .pointer (some ⟨q2, 0, none⟩), .int .i64 k, t10, t11, t12, t13, t14, t15, t16, t17, t18, t19, t20, t21, .slice aol l.length capl, .bool false, .bool false, .slice aom m.length capm, .bool false, .bool false, undef, .agg #[.slice none 0 0, .int .i64 0], .pointer (some ⟨p1, 0, none⟩), .agg #[.slice none 0 0, .int .i64 0], .pointer (some ⟨p2, 0, none⟩), t33, t34, t35, t36, t37, t38, t39, t40, t41, t42, t43, t44, t45, t46, t47, t48, t49, t50, t51, t52, t53, t54, t55, t56, t57, t58, t59, t60, t61, t62, t63, t64, t65, t66, t67, t68, t69, t70, t71, t72, t73, t74, t75, t76, t77, t78, t79, t80, t81, t82, t83, t84, t85, t86, t87, t88, t89, t90, t91, t92, t93, t94, t95, t96, t97, t98, t99, t100, t101, t102, t103, t104, t105, t106, t107, t108, t109, t110, t111, t112, t113, t114, t115, t116, t117, t118, t119, t120, t121, t122, t123, t124, t125, t126, t127, t128, t129, t130, t131, t132, t133, t134, t135, t136, t137, t138, t139, t140, t141, t142, t143, t144, t145, t146, t147, t148, t149, t150, t151, t152, t153, t154, t155, t156, t157, t158, t159, t160, t161, t162, t163, t164, t165, t166, t167, t168, t169, t170, t171, t172, t173, t174, t175, t176, t177, t178, t179, t180, t181, t182, t183, t184, t185, t186, t187, t188, t189, t190, t191, t192, t193, t194, t195, t196, t197, t198, t199, t200, t201, undef, undef, undef, undef, undef, undef, undef, undef, undef, undef, undef, undef, undef, undef, undef], defers := [] } wr) := by
          apply hid
          clear HT
          intro t4 t10 t11 t12 t13 t14 t15 t16 t17 t18 t19 t20 t21 t33 t34 t35 t36 t37 t38 t39 t40 t41 t42 t43 t44 t45 t46 t47 t48 t49 t50 t51 t52 t53 t54 t55 t56 t57 t58 t59 t60 t61 t62 t63 t64 t65 t66 t67 t68 t69 t70 t71 t72 t73 t74 t75 t76 t77 t78 t79 t80 t81 t82 t83 t84 t85 t86 t87 t88 t89 t90 t91 t92 t93 t94 t95 t96 t97 t98 t99 t100 t101 t102 t103 t104 t105 t106 t107 t108 t109 t110 t111 t112 t113 t114 t115 t116 t117 t118 t119 t120 t121 t122 t123 t124 t125 t126 t127 t128 t129 t130 t131 t132 t133 t134 t135 t136 t137 t138 t139 t140 t141 t142 t143 t144 t145 t146 t147 t148 t149 t150 t151 t152 t153 t154 t155 t156 t157 t158 t159 t160 t161 t162 t163 t164 t165 t166 t167 t168 t169 t170 t171 t172 t173 t174 t175 t176 t177 t178 t179 t180 t181 t182 t183 t184 t185 t186 t187 t188 t189 t190 t191 t192 t193 t194 t195 t196 t197 t198 t199 t200 t201 wr hk3 HT
          refine HK0.out _ _ ?_
          clear HK0
          refine wp_seq ?_
          refine wp_block ?_
          refine own_body w' l m aol aom capl capm hcl hclm Hcl Hokl hsuml hcm hcmm Hcm Hokm hsumm wr p1 q1 p2 q2 k hk3 _ _ _ _ _ _ _ _ _ _ _ _ _ _ _ _ _ _ _ _ _ _ _ _ _ _ _ _ _ _ _ _ _ _ _ _ _ _ _ _ _ _ _ _ _ _ _ _ _ _ _ _ _ _ _ _ _ _ _ _ _ _ _ _ _ _ _ _ _ _ _ _ _ _ _ _ _ _ _ _ _ _ _ _ _ _ _ _ _ _ _ _ _ _ _ _ _ _ _ _ _ _ _ _ _ _ _ _ _ _ _ _ _ _ _ _ _ _ _ _ _ _ _ _ _ _ _ _ _ _ _ _ _ _ _ _ _ _ _ _ _ _ _ _ _ _ _ _ _ _ _ _ _ _ _ _ _ _ _ _ _ _ _ _ _ _ _ _ _ _ _ _ _ _ _ _ _ _ _ _ _ _ s t g1 ao1 c1 g2 ao2 c2 HT hsl htl _ _ rfl ?_
          intro r4 r10 r11 r12 r13 r14 r15 r16 r17 r18 r19 r20 r21 r33 r34 r35 r36 r37 r38 r39 r40 r41 r42 r43 r44 r45 r46 r47 r48 r49 r50 r51 r52 r53 r54 r55 r56 r57 r58 r59 r60 r61 r62 r63 r64 r65 r66 r67 r68 r69 r70 r71 r72 r73 r74 r75 r76 r77 r78 r79 r80 r81 r82 r83 r84 r85 r86 r87 r88 r89 r90 r91 r92 r93 r94 r95 r96 r97 r98 r99 r100 r101 r102 r103 r104 r105 r106 r107 r108 r109 r110 r111 r112 r113 r114 r115 r116 r117 r118 r119 r120 r121 r122 r123 r124 r125 r126 r127 r128 r129 r130 r131 r132 r133 r134 r135 r136 r137 r138 r139 r140 r141 r142 r143 r144 r145 r146 r147 r148 r149 r150 r151 r152 r153 r154 r155 r156 r157 r158 r159 r160 r161 r162 r163 r164 r165 r166 r167 r168 r169 r170 r171 r172 r173 r174 r175 r176 r177 r178 r179 r180 r181 r182 r183 r184 r185 r186 r187 r188 r189 r190 r191 r192 r193 r194 r195 r196 r197 r198 r199 r200 r201 wr3 s3 g3 ao3 c3 t3 h3 ao4 c4 HT3 hs3 ht3
          show Code.wp Try.prog _ _ _ _
          go_wp2
          go_roundw
          case rel => first | exact ⟨k + 1, g3, ao3, c3, s3, h3, ao4, c4, t3, by omega, by go_num, HT3, hs3, ht3⟩ | ((repeat apply Exists.intro); exact ⟨⟨k + 1, g3, ao3, c3, s3, h3, ao4, c4, t3, by omega, by go_num, HT3, hs3, ht3⟩, rfl⟩)
          case measure => simp [intOf]; omega
        clear HK0
        by_cases hl : k < l.length
        · have hi1 : (k : Int) < (l.length : Int) := by omega
          have hi0 : (0 : Int) ≤ (k : Int) := by omega
          go_wp2_with fail
          exact Hr0.out _ _ _ _ _ _ _ _ _ _ _ _ _ _ _ _ _ _ _ _ _ _ _ _ _ _ _ _ _ _ _ _ _ _ _ _ _ _ _ _ _ _ _ _ _ _ _ _ _ _ _ _ _ _ _ _ _ _ _ _ _ _ _ _ _ _ _ _ _ _ _ _ _ _ _ _ _ _ _ _ _ _ _ _ _ _ _ _ _ _ _ _ _ _ _ _ _ _ _ _ _ _ _ _ _ _ _ _ _ _ _ _ _ _ _ _ _ _ _ _ _ _ _ _ _ _ _ _ _ _ _ _ _ _ _ _ _ _ _ _ _ _ _ _ _ _ _ _ _ _ _ _ _ _ _ _ _ _ _ _ _ _ _ _ _ _ _ _ _ _ _ _ _ _ _ _ _ _ _ _ _ _ _ (by omega) HT
        · by_cases hm : k < m.length
          · have hi1 : (l.length : Int) ≤ (k : Int) := by omega
            have hi2 : (k : Int) < (m.length : Int) := by omega
            have hi0 : (0 : Int) ≤ (k : Int) := by omega
            go_wp2_with fail
            exact Hr0.out _ _ _ _ _ _ _ _ _ _ _ _ _ _ _ _ _ _ _ _ _ _ _ _ _ _ _ _ _ _ _ _ _ _ _ _ _ _ _ _ _ _ _ _ _ _ _ _ _ _ _ _ _ _ _ _ _ _ _ _ _ _ _ _ _ _ _ _ _ _ _ _ _ _ _ _ _ _ _ _ _ _ _ _ _ _ _ _ _ _ _ _ _ _ _ _ _ _ _ _ _ _ _ _ _ _ _ _ _ _ _ _ _ _ _ _ _ _ _ _ _ _ _ _ _ _ _ _ _ _ _ _ _ _ _ _ _ _ _ _ _ _ _ _ _ _ _ _ _ _ _ _ _ _ _ _ _ _ _ _ _ _ _ _ _ _ _ _ _ _ _ _ _ _ _ _ _ _ _ _ _ _ _ (by omega) HT
          · have hi1 : (l.length : Int) ≤ (k : Int) := by omega
            have hi2 : (m.length : Int) ≤ (k : Int) := by omega
            clear Hr0
            go_wp2_with fail
            obtain ⟨n, hn⟩ : ∃ n, s.1.length = n := ⟨_, rfl⟩
            obtain ⟨nc, hnc⟩ : ∃ nc, t.1.length = nc := ⟨_, rfl⟩
            have hnb : n ≤ 200000 := by omega
            have hncb : nc ≤ 200000 := by omega
            have HN := hid hn
            have HNC := hid hnc
            obtain ⟨d0, d1⟩ := cell_of_pair HT.out.l1.xb
            obtain ⟨e0, e1⟩ := cell_of_pair HT.out.l2.xb
            have hq1 := HT.out.l1.ge.2.2.2.2
            have hq2 := HT.out.l2.ge.2.2.2.2
            clear hn hnc hsl htl hpl hpm d1 e1
            have hKeep : ∀ wx : World, Below wr.heap.size wr wx → (wx.cell? ⟨q1, 0, none⟩ = some (.slice ao1 s.1.length c1) ∧ wx.cell? ⟨q2, 0, none⟩ = some (.slice ao2 t.1.length c2)) ∧ Below wr.heap.size wr wx := fun wx hb => ⟨⟨(hb.cell hq1).trans d0, (hb.cell hq2).trans e0⟩, hb⟩
            have HK := hid hKeep
            clear hKeep
            have hself : Below wr.heap.size wr wr := Below.refl _ _
            go_region_held3 (fun wx => (wx.cell? ⟨q1, 0, none⟩ = some (.slice ao1 s.1.length c1) ∧ wx.cell? ⟨q2, 0, none⟩ = some (.slice ao2 t.1.length c2)) ∧ Below wr.heap.size wr wx)
              ((refine HK.out _ ?_; repeat (first | with_reducible assumption | with_reducible exact Below.refl _ _ | with_reducible refine Below.drew ?_ | with_reducible refine Below.alloc ?_ (by (try simp) <;> omega) _ | with_reducible refine Below.setCell ?_ (by (try simp) <;> omega) _)))
              (first
                | (go_at_call 14; (with_reducible show Calls Try.prog 14 #[Value.pointer (some ⟨p1, 0, none⟩)] _ _); refine (wdataN _ p1 g1 s n _ (HT.out.still (by repeat (first | with_reducible assumption | with_reducible exact Below.refl _ _ | with_reducible refine Below.drew ?_ | with_reducible refine Below.alloc ?_ (by (try simp) <;> omega) _))).l1.wr HN.out (by omega)).mono ?_; rintro y wA ⟨rfl, howA, hbA⟩; have hselfA := belTrans (w := wr) (by repeat (first | with_reducible assumption | with_reducible exact Below.refl _ _ | with_reducible refine Below.drew ?_ | with_reducible refine Below.alloc ?_ (by (try simp) <;> omega) _)) hbA; have HOA := hid (howA.slM HN.out (by omega)); clear howA hbA)
                | (go_at_call 14; (with_reducible show Calls Try.prog 14 #[Value.pointer (some ⟨p2, 0, none⟩)] _ _); refine (wdataN _ p2 g2 t nc _ (HT.out.still (by repeat (first | with_reducible assumption | with_reducible exact Below.refl _ _ | with_reducible refine Below.drew ?_ | with_reducible refine Below.alloc ?_ (by (try simp) <;> omega) _))).l2.wr HNC.out (by omega)).mono ?_; rintro y wC ⟨rfl, howC, hbC⟩; have hselfC := belTrans (w := wr) (by repeat (first | with_reducible assumption | with_reducible exact Below.refl _ _ | with_reducible refine Below.drew ?_ | with_reducible refine Below.alloc ?_ (by (try simp) <;> omega) _)) hbC; have HOC := hid (howC.slM HNC.out (by omega)); clear howC hbC)
                | (go_at_call 13; (with_reducible show Calls Try.prog 13 #[Value.slice _ n n, _] _ _); refine (bytesSame _ _ s.1 _ (HOA.out.below (by repeat (first | with_reducible assumption | with_reducible exact Below.refl _ _ | with_reducible refine Below.drew ?_))) (HT.out.still (by repeat (first | with_reducible assumption | with_reducible exact Below.refl _ _ | with_reducible refine Below.drew ?_ | with_reducible refine Below.alloc ?_ (by (try simp) <;> omega) _))).l1.sn.1 (by rw [HN.out]; omega)).mono ?_; rintro y wB ⟨hdB, rfl⟩; have hselfB := belTrans (w := wr) (by repeat (first | with_reducible assumption | with_reducible exact Below.refl _ _ | with_reducible refine Below.drew ?_ | with_reducible refine Below.alloc ?_ (by (try simp) <;> omega) _)) (DN.below hdB _); clear hdB)
                | (go_at_call 13; (with_reducible show Calls Try.prog 13 #[Value.slice _ nc nc, _] _ _); refine (bytesSame _ _ t.1 _ (HOC.out.below (by repeat (first | with_reducible assumption | with_reducible exact Below.refl _ _ | with_reducible refine Below.drew ?_))) (HT.out.still (by repeat (first | with_reducible assumption | with_reducible exact Below.refl _ _ | with_reducible refine Below.drew ?_ | with_reducible refine Below.alloc ?_ (by (try simp) <;> omega) _))).l2.sn.1 (by rw [HNC.out]; omega)).mono ?_; rintro y wD ⟨hdD, rfl⟩; have hselfD := belTrans (w := wr) (by repeat (first | with_reducible assumption | with_reducible exact Below.refl _ _ | with_reducible refine Below.drew ?_ | with_reducible refine Below.alloc ?_ (by (try simp) <;> omega) _)) (DN.below hdD _); clear hdD)
                | (go_at_call 10; refine (known_any _).mono ?_; rintro y wK ⟨rfl, hbK⟩; have hselfK := belTrans (w := wr) (by repeat (first | with_reducible assumption | with_reducible exact Below.refl _ _ | with_reducible refine Below.drew ?_ | with_reducible refine Below.alloc ?_ (by (try simp) <;> omega) _)) hbK; clear hbK))
            all_goals
              go_wp2
              go_ret
              exact ⟨rfl, HT.out.l1.bel.trans (hselfK.mono HT.out.l1.bel.size)⟩


end Go.Proofs.Ytamajeagmkjjbaa
