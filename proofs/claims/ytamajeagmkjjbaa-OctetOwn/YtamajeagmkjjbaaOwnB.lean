import Derived.Test.YtamajeagmkjjbaaSts
import Derived.Test.YtamajeagmkjjbaaKnown
import Derived.Test.YtamajeagmkjjbaaMuch
namespace Go.Proofs.Ytamajeagmkjjbaa
open Go.RowKit

theorem wdataN (B p : Nat) (g : Option Nat) (s : List Int × Int) (n : Nat) (w : World) (h : Wr B w p g s.1 s.2) (hn : s.1.length = n) (hl : n ≤ 1000000000) :
    Calls Try.prog 14 #[.pointer (some ⟨p, 0, none⟩)] w fun x w' => x = .returned (.slice (some ⟨w.heap.size, 0, none⟩) n n) ∧ Own w' w.heap.size s.1 ∧ Below w.heap.size w w' := by
  subst hn
  exact wdata_any B p g s.1 s.2 w h hl

theorem Own.slM {w : World} {g : Nat} {bs : List Int} {n : Nat} (h : Own w g bs) (hn : bs.length = n) (hl : n ≤ 1000000000) : Sl w (.slice (some ⟨g, 0, none⟩) n n) bs := by
  subst hn
  exact h.sl hl

theorem bytesSame (a b : Value) (xs : List Int) (w : World) (ha : Sl w a xs) (hb : Sl w b xs) (hl : xs.length ≤ 1000000000) :
    Calls Try.prog 13 #[a, b] w fun x w' => DN w w' ∧ x = .returned (.bool true) := by
  have := bytes_any a b xs xs w ha hb hl
  rwa [show decide (xs = xs) = true by simp] at this

/-- Ways down into a text: left, right, a block's, a loop's. -/
def cR : Code → Code | .seq _ b => b | c => c
def cL : Code → Code | .seq a _ => a | c => c
def cB : Code → Code | .block _ c => c | c => c
def cP : Code → Code | .loop c => c | c => c
def cO : Option Code → Code | some c => c | none => .skip

set_option maxRecDepth 100000 in
set_option maxHeartbeats 16000000 in
theorem own_big (w' wq : World) (p1 q1 p2 q2 k : Nat) (X1 X2 t4 t10 t11 t12 t13 t14 t15 t16 t17 t18 t19 t20 t21 t33 t34 t35 t36 t37 t38 t39 t40 t41 t42 t43 t44 t45 t46 t47 t48 t49 t50 t51 t52 t53 t54 t55 t56 t57 t58 t59 t60 t61 t62 t63 t64 t65 t66 t67 t68 t69 t70 t71 t72 t73 t74 t75 t76 t77 t78 t79 t80 t81 t82 t83 t84 t85 t86 t87 t88 t89 t90 t91 t92 t93 t94 t95 t96 t97 t98 t99 t100 t101 t102 t103 t104 t105 t106 t107 t108 t109 t110 t111 t112 t113 t114 t115 t116 t117 t118 t119 t120 t121 t122 t123 t124 t125 t126 t127 t128 t129 t130 t131 t132 t133 t134 t135 t136 t137 t138 t139 t140 t141 t142 t143 t144 t145 t146 t147 t148 t149 t150 t151 t152 t153 t154 t155 t156 t157 t158 t159 t160 t161 t162 t163 t164 t165 t166 t167 t168 t169 t170 t171 t172 t173 t174 t175 t176 t177 t178 t179 t180 t181 t182 t183 t184 t185 t186 t187 t188 t189 t190 t191 t192 t193 t194 t195 t196 t197 t198 t199 t200 t201 : Value) (s t : List Int × Int) (g1 : Option Nat) (ao1 : Option Addr) (c1 : Nat) (g2 : Option Nat) (ao2 : Option Addr) (c2 : Nat)
    (HT : Hid (Two w' wq p1 q1 g1 ao1 c1 s s p2 q2 g2 ao2 c2 t t)) (hsb : s.1.length ≤ 200000) (htb : t.1.length ≤ 200000) (Q : Exit → Act → World → Prop) (c : Code) (hc : cR (cR (cB (cL (cR (cP (cB (cR (cL (cR (cR (cR (cR (cR (cR (cO Try.f8.body)))))))))))))) ) = c)
    (hQ : ∀ (r4 r10 r11 r12 r13 r14 r15 r16 r17 r18 r19 r20 r21 r33 r34 r35 r36 r37 r38 r39 r40 r41 r42 r43 r44 r45 r46 r47 r48 r49 r50 r51 r52 r53 r54 r55 r56 r57 r58 r59 r60 r61 r62 r63 r64 r65 r66 r67 r68 r69 r70 r71 r72 r73 r74 r75 r76 r77 r78 r79 r80 r81 r82 r83 r84 r85 r86 r87 r88 r89 r90 r91 r92 r93 r94 r95 r96 r97 r98 r99 r100 r101 r102 r103 r104 r105 r106 r107 r108 r109 r110 r111 r112 r113 r114 r115 r116 r117 r118 r119 r120 r121 r122 r123 r124 r125 r126 r127 r128 r129 r130 r131 r132 r133 r134 r135 r136 r137 r138 r139 r140 r141 r142 r143 r144 r145 r146 r147 r148 r149 r150 r151 r152 r153 r154 r155 r156 r157 r158 r159 r160 r161 r162 r163 r164 r165 r166 r167 r168 r169 r170 r171 r172 r173 r174 r175 r176 r177 r178 r179 r180 r181 r182 r183 r184 r185 r186 r187 r188 r189 r190 r191 r192 r193 r194 r195 r196 r197 r198 r199 r200 r201 : Value) (wr : World), Kept (fun k => wq.heap.size ≤ k) wq wr → Q Exit.normal { tmps := #[X1, X2, undef, undef, r4, .pointer (some ⟨p1, 0, none⟩), .pointer (some ⟨p2, 0, none⟩), .pointer (some ⟨q1, 0, none⟩), .pointer (some ⟨q2, 0, none⟩), .int .i64 k, r10, r11, r12, r13, r14, r15, r16, r17, r18, r19, r20, r21, X1, .bool false, .bool false, X2, .bool false, .bool false, undef, .agg #[.slice none 0 0, .int .i64 0], .pointer (some ⟨p1, 0, none⟩), .agg #[.slice none 0 0, .int .i64 0], .pointer (some ⟨p2, 0, none⟩), r33, r34, r35, r36, r37, r38, r39, r40, r41, r42, r43, r44, r45, r46, r47, r48, r49, r50, r51, r52, r53, r54, r55, r56, r57, r58, r59, r60, r61, r62, r63, r64, r65, r66, r67, r68, r69, r70, r71, r72, r73, r74, r75, r76, r77, r78, r79, r80, r81, r82, r83, r84, r85, r86, r87, r88, r89, r90, r91, r92, r93, r94, r95, r96, r97, r98, r99, r100, r101, r102, r103, r104, r105, r106, r107, r108, r109, r110, r111, r112, r113, r114, r115, r116, r117, r118, r119, r120, r121, r122, r123, r124, r125, r126, r127, r128, r129, r130, r131, r132, r133, r134, r135, r136, r137, r138, r139, r140, r141, r142, r143, r144, r145, r146, r147, r148, r149, r150, r151, r152, r153, r154, r155, r156, r157, r158, r159, r160, r161, r162, r163, r164, r165, r166, r167, r168, r169, r170, r171, r172, r173, r174, r175, r176, r177, r178, r179, r180, r181, r182, r183, r184, r185, r186, r187, r188, r189, r190, r191, r192, r193, r194, r195, r196, r197, r198, r199, r200, r201, undef, undef, undef, undef, undef, undef, undef, undef, undef, undef, undef, undef, undef, undef, undef], defers := [] } wr) :
    Code.wp Try.prog c Q { tmps := #[X1, X2, undef, undef, t4, .pointer (some ⟨p1, 0, none⟩), .pointer (some ⟨p2, 0, none⟩), .pointer (some ⟨q1, 0, none⟩), .pointer (some ⟨q2, 0, none⟩), .int .i64 k, t10, t11, t12, t13, t14, t15, t16, t17, t18, t19, t20, t21, X1, .bool false, .bool false, X2, .bool false, .bool false, undef, .agg #[.slice none 0 0, .int .i64 0], .pointer (some ⟨p1, 0, none⟩), .agg #[.slice none 0 0, .int .i64 0], .pointer (some ⟨p2, 0, none⟩), t33, t34, t35, t36, t37, t38, t39, t40, t41, t42, t43, t44, t45, t46, t47, t48, t49, t50, t51, t52, t53, t54, t55, t56, t57, t58, t59, t60, t61, t62, t63, t64, t65, t66, t67, t68, t69, t70, t71, t72, t73, t74, t75, t76, t77, t78, t79, t80, t81, t82, t83, t84, t85, t86, t87, t88, t89, t90, t91, t92, t93, t94, t95, t96, t97, t98, t99, t100, t101, t102, t103, t104, t105, t106, t107, t108, t109, t110, t111, t112, t113, t114, t115, t116, t117, t118, t119, t120, t121, t122, t123, t124, t125, t126, t127, t128, t129, t130, t131, t132, t133, t134, t135, t136, t137, t138, t139, t140, t141, t142, t143, t144, t145, t146, t147, t148, t149, t150, t151, t152, t153, t154, t155, t156, t157, t158, t159, t160, t161, t162, t163, t164, t165, t166, t167, t168, t169, t170, t171, t172, t173, t174, t175, t176, t177, t178, t179, t180, t181, t182, t183, t184, t185, t186, t187, t188, t189, t190, t191, t192, t193, t194, t195, t196, t197, t198, t199, t200, t201, undef, undef, undef, undef, undef, undef, undef, undef, undef, undef, undef, undef, undef, undef, undef], defers := [] } wq := by
  obtain ⟨n, hn⟩ : ∃ n, s.1.length = n := ⟨_, rfl⟩
  obtain ⟨nc, hnc⟩ : ∃ nc, t.1.length = nc := ⟨_, rfl⟩
  have hnb : n ≤ 200000 := by omega
  have hncb : nc ≤ 200000 := by omega
  have HN := hid hn
  have HNC := hid hnc
  have HQ := hid hQ
  clear hn hnc hsb htb hQ
  subst hc
  dsimp only [cR, cL, cB, cP, cO, Try.f8]
  go_wp2_with fail
  refine (wdataN _ p1 g1 s n _ HT.out.l1.wr HN.out (by omega)).mono ?_
  rintro x wa ⟨rfl, howa, hba⟩
  have hTa := HT.out.still hba
  have HTa := hid hTa
  have HOa := hid howa
  have HKa := hid (Kept.ofBelow hba)
  have hza := howa.lt
  clear hTa howa hba
  go_wp2_with fail
  refine (wdataN _ p1 g1 s n _ HTa.out.l1.wr HN.out (by omega)).mono ?_
  rintro x wb ⟨rfl, howb, hbb⟩
  have HTb := hid (HTa.out.still hbb)
  have HOb := hid (⟨HOa.out.kept (Kept.ofBelow hbb) (fun h => h), howb⟩ : _ ∧ _)
  have HKb := hid (HKa.out.trans (Kept.ofBelow hbb) (fun _ _ h => h))
  have hzb := howb.lt
  clear howb hbb HTa HOa HKa
  go_wp2_with fail
  refine (wdataN _ p2 g2 t nc _ HTb.out.l2.wr HNC.out (by omega)).mono ?_
  rintro x wc ⟨rfl, howc, hbc⟩
  have HTc := hid (HTb.out.still hbc)
  have hSt : St wq wc wq.heap.size wa.heap.size wb.heap.size s.1 s.1 t.1 := ⟨HOb.out.1.kept (Kept.ofBelow hbc) (fun h => h), HOb.out.2.kept (Kept.ofBelow hbc) (fun h => h), howc, (HKb.out.trans (Kept.ofBelow hbc) (fun _ _ h => h)).mono (fun _ _ h => h.elim), Nat.le_refl _, hza, hzb⟩
  have HSt := hid hSt
  clear howc hbc HTb HOb HKb hSt
  obtain ⟨d0, d1⟩ := cell_of_pair HTc.out.l1.xb
  obtain ⟨e0, e1⟩ := cell_of_pair HTc.out.l2.xb
  have HSl := hid (⟨HTc.out.l1.sn.1, HTc.out.l2.sn.1⟩ : _ ∧ _)
  clear HTc
  generalize hga : wq.heap.size = ga at *
  generalize wa.heap.size = gb at *
  generalize wb.heap.size = gc at *
  have HGA := hid hga
  clear hga
  go_wp2_with fail
  refine (bytesSame _ _ s.1 _ (HSt.out.a.slM HN.out (by omega)) HSl.out.1 (by rw [HN.out]; omega)).mono ?_
  rintro x wd ⟨hd, rfl⟩
  dsimp only
  have hbd := DN.below hd wc.heap.size
  have HSt2 := hid (HSt.out.still hbd)
  have HSl2 := hid (⟨HSl.out.1.below hbd, HSl.out.2.below hbd⟩ : _ ∧ _)
  have d0' := (hd.cell _).trans d0
  have e0' := (hd.cell _).trans e0
  clear hd hbd HSt HSl d0 d1 e0 e1
  go_wp2_with fail
  refine (bytesSame _ _ s.1 _ (HSt2.out.b.slM HN.out (by omega)) HSl2.out.1 (by rw [HN.out]; omega)).mono ?_
  rintro x we ⟨hd, rfl⟩
  dsimp only
  have hbd := DN.below hd wd.heap.size
  have HSt3 := hid (HSt2.out.still hbd)
  have HSl3 := hid (HSl2.out.2.below hbd)
  have e0 := (hd.cell _).trans e0'
  clear hd hbd HSt2 HSl2 d0' e0'
  go_wp2_with fail
  refine (bytesSame _ _ t.1 _ (HSt3.out.c.slM HNC.out (by omega)) HSl3.out (by rw [HNC.out]; omega)).mono ?_
  rintro x wf ⟨hd, rfl⟩
  dsimp only
  have hbd := DN.below hd we.heap.size
  have HSt4 := hid (HSt3.out.still hbd)
  clear hd hbd HSt3 HSl3 e0
  go_wp2_with fail
  go_loopw [13] (fun i wr => ∃ (j : Nat), j ≤ n ∧ i = .int .i64 j ∧ Hid (St wq wr ga gb gc (turned j 1 s.1) (turned j 2 s.1) t.1))
    (fun i _ => n - (intOf i).toNat)
  case atStart => exact ⟨0, Nat.zero_le _, rfl, by rw [turned_zero, turned_zero]; exact HSt4⟩
  case round =>
    clear HSt4
    obtain ⟨j, hj, rfl, HStA⟩ := hrel
    by_cases hlt : j < n
    · obtain ⟨x1, hx1⟩ := turned_at j 1 s.1 j (by rw [HN.out]; omega)
      obtain ⟨x2, hx2⟩ := turned_at j 2 s.1 j (by rw [HN.out]; omega)
      have ca := HStA.out.a.cell hx1
      have cb := HStA.out.b.cell hx2
      have fa := HStA.out.a.brow.free j
      have fb := HStA.out.b.brow.free j
      have hab : ga ≠ gb := by have := HStA.out.ord; omega
      have hba : gb ≠ ga := by omega
      have HP := hid (HStA.out.put j 1 2)
      have HP2 : Hid (St wq ((wr.setCell ⟨ga, j, none⟩ (.int .u8 1)).setCell ⟨gb, j, none⟩ (.int .u8 2)) ga gb gc (turned (j + 1) 1 s.1) (turned (j + 1) 2 s.1) t.1) := by
        rw [← turned_succ j 1 s.1 (by rw [HN.out]; omega), ← turned_succ j 2 s.1 (by rw [HN.out]; omega)]
        exact HP
      have i1 : (0 : Int) ≤ (j : Int) := by omega
      have i2 : (j : Int) < (n : Int) := by omega
      clear hx1 hx2 HP
      go_wp2
      go_roundw
      case rel => first | exact ⟨j + 1, by omega, by go_num, HP2⟩ | ((repeat apply Exists.intro); exact ⟨⟨j + 1, by omega, by go_num, HP2⟩, rfl⟩)
      case measure => simp [intOf]; omega
    · obtain rfl : j = n := by omega
      have HStB : Hid (St wq wr ga gb gc (List.replicate j 1) (List.replicate j 2) t.1) := by
        have := HStA.out
        rw [← HN.out, turned_all, turned_all] at this
        rw [← HN.out]
        exact hid this
      clear HStA
      go_wp2_with fail
      go_loopw [14] (fun i wx => ∃ (jc : Nat), jc ≤ nc ∧ i = .int .i64 jc ∧ Hid (St wq wx ga gb gc (List.replicate j 1) (List.replicate j 2) (turned jc 3 t.1)))
        (fun i _ => nc - (intOf i).toNat)
      case atStart => exact ⟨0, Nat.zero_le _, rfl, by rw [turned_zero]; exact HStB⟩
      case round =>
        clear HStB
        obtain ⟨jc, hjc, rfl, HStB⟩ := hrel
        by_cases hltc : jc < nc
        · obtain ⟨x1, hx1⟩ := turned_at jc 3 t.1 jc (by rw [HNC.out]; omega)
          have ca := HStB.out.c.cell hx1
          have fa := HStB.out.c.brow.free jc
          have HP := hid (HStB.out.putc jc 3)
          have HP2 : Hid (St wq (wr.setCell ⟨gc, jc, none⟩ (.int .u8 3)) ga gb gc (List.replicate j 1) (List.replicate j 2) (turned (jc + 1) 3 t.1)) := by
            rw [← turned_succ jc 3 t.1 (by rw [HNC.out]; omega)]
            exact HP
          have i1 : (0 : Int) ≤ (jc : Int) := by omega
          have i2 : (jc : Int) < (nc : Int) := by omega
          clear hx1 HP
          go_wp2
          go_roundw
          case rel => first | exact ⟨jc + 1, by omega, by go_num, HP2⟩ | ((repeat apply Exists.intro); exact ⟨⟨jc + 1, by omega, by go_num, HP2⟩, rfl⟩)
          case measure => simp [intOf]; omega
        · obtain rfl : jc = nc := by omega
          have HStC : Hid (St wq wr ga gb gc (List.replicate j 1) (List.replicate j 2) (List.replicate jc 3)) := by
            have := HStB.out
            rw [← HNC.out, turned_all] at this
            rw [← HNC.out]
            exact hid this
          clear HStB
          have hlo : ga < wr.heap.size ∧ gb < wr.heap.size ∧ gc < wr.heap.size := ⟨HStC.out.a.lt, HStC.out.b.lt, HStC.out.c.lt⟩
          have hor3 := HStC.out.ord
          obtain ⟨H, hH⟩ : ∃ H, H = wr.heap.size := ⟨_, rfl⟩
          have hD0 : D3 wr H ga gb gc j jc (List.replicate j 1) (List.replicate j 2) (List.replicate jc 3) 0 0 0 (.slice (some ⟨ga, 0, none⟩) j j) (.slice (some ⟨gb, 0, none⟩) j j) (.slice (some ⟨gc, 0, none⟩) jc jc) := by
            refine ⟨.inl ⟨rfl, rfl⟩, .inl ⟨rfl, rfl⟩, .inl ⟨rfl, rfl⟩, ?_, ?_, ?_, by omega, by omega⟩
            · intro k e1 e2; injection e1 with e1; injection e2 with e2; dsimp only at e1 e2; omega
            · intro k e1 e2; injection e1 with e1; injection e2 with e2; dsimp only at e1 e2; omega
            · intro k e1 e2; injection e1 with e1; injection e2 with e2; dsimp only at e1 e2; omega
          have HD0 := hid hD0
          clear hD0 hH hlo
          go_wp2_with fail
          go_loopw [15, 16, 17, 18] (fun d e f i wx => ∃ (jj : Nat), jj ≤ 40 ∧ i = .int .i64 jj ∧ Hid (St wq wx ga gb gc (List.replicate j 1) (List.replicate j 2) (List.replicate jc 3)) ∧ Hid (D3 wx H ga gb gc j jc (List.replicate j 1) (List.replicate j 2) (List.replicate jc 3) jj jj jj d e f))
            (fun d e f i _ => 40 - (intOf i).toNat)
          case atStart => exact ⟨0, Nat.zero_le _, rfl, HStC, HD0⟩
          case round =>
            clear HStC HD0
            obtain ⟨jj, hjj, rfl, HStD, HD⟩ := hrel
            by_cases hjl : jj < 40
            · have hjl2 : (jj : Int) < 40 := by omega
              go_wp2_with (at_builtin; refine wpList_append_dd _ rfl (.tmp 130) (.tmp 131) rfl H ga j (List.replicate j 1) jj 4 u15 rfl wr.heap.size rfl (HStD.out.still ((Below.refl _ wr).alloc (Nat.le_refl _) (.cells #[.int .u8 4] 5))).a (by simp) HD.out.lt.1 (HD.out.still ((Below.refl _ wr).alloc (Nat.le_refl _) (.cells #[.int .u8 4] 5))).hH (HD.out.still ((Below.refl _ wr).alloc (Nat.le_refl _) (.cells #[.int .u8 4] 5))).dd (heap_alloc_new wr _) (by omega) ?_)
              intro v7 w7 ho hk3 hv
              have HS7 := hid ((HStD.out.still ((Below.refl _ wr).alloc (Nat.le_refl _) (.cells #[.int .u8 4] 5))).app hk3.out HD.out.lt)
              have HD7 := hid ((HD.out.still ((Below.refl _ wr).alloc (Nat.le_refl _) (.cells #[.int .u8 4] 5))).app_d (by simpa [B8] using ho.out) hk3.out (by simpa using hv.out))
              clear ho hk3 hv HStD HD
              go_wp2_with (at_builtin; refine wpList_append_dd _ rfl (.tmp 133) (.tmp 134) rfl H gb j (List.replicate j 2) jj 5 u16 rfl w7.heap.size rfl (HS7.out.still ((Below.refl _ w7).alloc (Nat.le_refl _) (.cells #[.int .u8 5] 5))).b (by simp) HD7.out.lt.2.1 (HD7.out.still ((Below.refl _ w7).alloc (Nat.le_refl _) (.cells #[.int .u8 5] 5))).hH (HD7.out.still ((Below.refl _ w7).alloc (Nat.le_refl _) (.cells #[.int .u8 5] 5))).de (heap_alloc_new w7 _) (by omega) ?_)
              intro v8 w8 ho hk3 hv
              have HS8 := hid ((HS7.out.still ((Below.refl _ w7).alloc (Nat.le_refl _) (.cells #[.int .u8 5] 5))).app hk3.out HD7.out.lt)
              have HD8 := hid ((HD7.out.still ((Below.refl _ w7).alloc (Nat.le_refl _) (.cells #[.int .u8 5] 5))).app_e (by simpa [B8] using ho.out) hk3.out (by simpa using hv.out))
              clear ho hk3 hv HS7 HD7
              go_wp2_with (at_builtin; refine wpList_append_dd _ rfl (.tmp 136) (.tmp 137) rfl H gc jc (List.replicate jc 3) jj 6 u17 rfl w8.heap.size rfl (HS8.out.still ((Below.refl _ w8).alloc (Nat.le_refl _) (.cells #[.int .u8 6] 5))).c (by simp) HD8.out.lt.2.2 (HD8.out.still ((Below.refl _ w8).alloc (Nat.le_refl _) (.cells #[.int .u8 6] 5))).hH (HD8.out.still ((Below.refl _ w8).alloc (Nat.le_refl _) (.cells #[.int .u8 6] 5))).df (heap_alloc_new w8 _) (by omega) ?_)
              intro v9 w9 ho hk3 hv
              have HS9 := hid ((HS8.out.still ((Below.refl _ w8).alloc (Nat.le_refl _) (.cells #[.int .u8 6] 5))).app hk3.out HD8.out.lt)
              have HD9 := hid ((HD8.out.still ((Below.refl _ w8).alloc (Nat.le_refl _) (.cells #[.int .u8 6] 5))).app_f (by simpa [B8] using ho.out) hk3.out (by simpa using hv.out))
              clear ho hk3 hv HS8 HD8
              go_wp2
              go_roundw
              case rel => first | exact ⟨jj + 1, by omega, by go_num, HS9, HD9⟩ | ((repeat apply Exists.intro); exact ⟨⟨jj + 1, by omega, by go_num, HS9, HD9⟩, rfl⟩)
              case measure => simp [intOf]; omega
            · obtain rfl : jj = 40 := by omega
              obtain ⟨gd, cd, hdv, hdb⟩ := HD.out.dd.row (by omega)
              obtain ⟨ge, ce, hev, heb⟩ := HD.out.de.row (by omega)
              obtain ⟨N, hN⟩ : ∃ N, N = j + 40 := ⟨_, rfl⟩
              rw [← hN] at hdv hev
              subst hdv hev
              have HDb := hid (⟨hdb, heb⟩ : _ ∧ _)
              obtain ⟨W5, hW5⟩ : ∃ W5, W5 = wr := ⟨_, rfl⟩
              rw [← hW5] at HStD HDb
              have HW5 := hid hW5.symm
              clear hdb heb HD hW5
              go_wp2_with fail
              have hN2 : (j : Int) ≤ (N : Int) := by omega
              rw [HW5.out]
              clear HW5
              go_loopw [19] (fun i wx => ∃ (kk : Nat), kk ≤ j ∧ i = .int .i64 kk ∧ Hid (wx = W5))
                (fun i _ => j - (intOf i).toNat)
              case atStart => exact ⟨0, Nat.zero_le _, rfl, hid rfl⟩
              case round =>
                obtain ⟨kk, hkk, rfl, hweq⟩ := hrel
                obtain rfl : wr = W5 := hweq.out
                clear hweq
                by_cases hlk : kk < j
                · have ca := HStD.out.a.cell (rep_at j 1 kk hlk)
                  have cb := HStD.out.b.cell (rep_at j 2 kk hlk)
                  have cdd := HDb.out.1.cell (reps_lo j 40 1 4 kk hlk)
                  have cee := HDb.out.2.cell (reps_lo j 40 2 5 kk hlk)
                  have i1 : (0 : Int) ≤ (kk : Int) := by omega
                  have i2 : (kk : Int) < (j : Int) := by omega
                  have i3 : (kk : Int) < (N : Int) := by omega
                  go_wp2
                  go_roundw
                  case rel => first | exact ⟨kk + 1, by omega, by go_num, by first | exact hid rfl | exact hid trivial⟩ | ((repeat apply Exists.intro); exact ⟨⟨kk + 1, by omega, by go_num, by first | exact hid rfl | exact hid trivial⟩, rfl⟩)
                  case measure => simp [intOf]; omega
                · obtain rfl : kk = j := by omega
                  go_wp2_with fail
                  obtain ⟨W6, hW6⟩ : ∃ W6, W6 = wr := ⟨_, rfl⟩
                  rw [← hW6] at HStD HDb ⊢
                  clear hW6
                  go_loopw [20] (fun i wx => ∃ (kz : Nat), kk ≤ kz ∧ kz ≤ N ∧ i = .int .i64 kz ∧ Hid (wx = W6))
                    (fun i _ => N - (intOf i).toNat)
                  case atStart => exact ⟨kk, Nat.le_refl _, by omega, rfl, hid rfl⟩
                  case round =>
                    obtain ⟨kz, hkz1, hkz2, rfl, hweq⟩ := hrel
                    obtain rfl : wr = W6 := hweq.out
                    clear hweq
                    by_cases hlz : kz < N
                    · have cdd := HDb.out.1.cell (reps_hi kk 40 1 4 kz hkz1 (by omega))
                      have cee := HDb.out.2.cell (reps_hi kk 40 2 5 kz hkz1 (by omega))
                      have i1 : (0 : Int) ≤ (kz : Int) := by omega
                      have i3 : (kz : Int) < (N : Int) := by omega
                      go_wp2
                      go_roundw
                      case rel => first | exact ⟨kz + 1, by omega, by omega, by go_num, by first | exact hid rfl | exact hid trivial⟩ | ((repeat apply Exists.intro); exact ⟨⟨kz + 1, by omega, by omega, by go_num, by first | exact hid rfl | exact hid trivial⟩, rfl⟩)
                      case measure => simp [intOf]; omega
                    · obtain rfl : kz = N := by omega
                      go_wp2_with fail
                      obtain ⟨W7, hW7⟩ : ∃ W7, W7 = wr := ⟨_, rfl⟩
                      rw [← hW7] at HStD ⊢
                      clear hW7
                      go_loopw [21] (fun i wx => ∃ (kc : Nat), kc ≤ jc ∧ i = .int .i64 kc ∧ Hid (wx = W7))
                        (fun i _ => jc - (intOf i).toNat)
                      case atStart => exact ⟨0, Nat.zero_le _, rfl, hid rfl⟩
                      case round =>
                        obtain ⟨kc, hkc, rfl, hweq⟩ := hrel
                        obtain rfl : wr = W7 := hweq.out
                        clear hweq
                        by_cases hlc : kc < jc
                        · have ccc := HStD.out.c.cell (rep_at jc 3 kc hlc)
                          have i1 : (0 : Int) ≤ (kc : Int) := by omega
                          have i3 : (kc : Int) < (jc : Int) := by omega
                          go_wp2
                          go_roundw
                          case rel => first | exact ⟨kc + 1, by omega, by go_num, by first | exact hid rfl | exact hid trivial⟩ | ((repeat apply Exists.intro); exact ⟨⟨kc + 1, by omega, by go_num, by first | exact hid rfl | exact hid trivial⟩, rfl⟩)
                          case measure => simp [intOf]; omega
                        · obtain rfl : kc = jc := by omega
                          go_wp2_with fail
                          exact HQ.out _ _ _ _ _ _ _ _ _ _ _ _ _ _ _ _ _ _ _ _ _ _ _ _ _ _ _ _ _ _ _ _ _ _ _ _ _ _ _ _ _ _ _ _ _ _ _ _ _ _ _ _ _ _ _ _ _ _ _ _ _ _ _ _ _ _ _ _ _ _ _ _ _ _ _ _ _ _ _ _ _ _ _ _ _ _ _ _ _ _ _ _ _ _ _ _ _ _ _ _ _ _ _ _ _ _ _ _ _ _ _ _ _ _ _ _ _ _ _ _ _ _ _ _ _ _ _ _ _ _ _ _ _ _ _ _ _ _ _ _ _ _ _ _ _ _ _ _ _ _ _ _ _ _ _ _ _ _ _ _ _ _ _ _ _ _ _ _ _ _ _ _ _ _ _ _ _ _ _ _ _ _ _ (by rw [← HGA.out]; exact HStD.out.kp)


end Go.Proofs.Ytamajeagmkjjbaa
