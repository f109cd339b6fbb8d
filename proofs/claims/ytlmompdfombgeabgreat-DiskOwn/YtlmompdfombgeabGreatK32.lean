import Derived.Test.YtlmompdfombgeabGreatK31
namespace Go.Proofs.YtlmompdfombgeabGreat
open Go.RowKit Go.MapKept

theorem ln_of_owns {w : World} {B n : Nat} {v : Value} {ps : List Int} (h : w.ownsRow B 3 1 v n (ps.map (Value.int .i64))) : Ln w v ps := by
  have hl : ps.length = n := by have := h.1; simp at this; omega
  have := rf_of_owns h (fun u hu => by
    obtain ⟨y, _, rfl⟩ := List.mem_map.1 hu
    rfl)
  unfold Ln
  rw [flat_i64, hl]
  exact this

/-- What same is handed. -/
structure Tl (w : World) (l1 l2 : List (ByteArray × List Int)) (ps : List Int) (v1 v2 v3 : Value) : Prop where
  a : ∃ B, FbAt w B v1 l1
  b : ∃ B, FbAt w B v2 l2
  c : Ln w v3 ps

theorem Tl.below {w w' : World} {l1 l2 : List (ByteArray × List Int)} {ps : List Int} {v1 v2 v3 : Value} (h : Tl w l1 l2 ps v1 v2 v3) (hb : Below w.heap.size w w') : Tl w' l1 l2 ps v1 v2 v3 := by
  obtain ⟨⟨B, h1⟩, ⟨B2, h2⟩, h3⟩ := h
  exact ⟨⟨B, h1.below hb⟩, ⟨B2, h2.below hb⟩, Rf.below h3 hb⟩

set_option maxRecDepth 100000 in
set_option maxHeartbeats 3200000 in
theorem same_yes {w : World} {l1 l2 : List (ByteArray × List Int)} {ps : List Int} {a1 a2 a3 a1' a2' a3' : Option Addr} {n1 n2 n3 k1 k2 k3 k1' k2' k3' : Nat} (tn hb hc : Int) (o : Bool)
    (h : Tl w l1 l2 ps (.slice a1 n1 k1) (.slice a2 n2 k2) (.slice a3 n3 k3)) (h' : Tl w l1 l2 ps (.slice a1' n1 k1') (.slice a2' n2 k2') (.slice a3' n3 k3')) (s1 : l1.length ≤ 1000) (s2 : l2.length ≤ 1000) (s3 : ps.length ≤ 1000) (z1 : szF l1 ≤ 100000000) (z2 : szF l2 ≤ 100000000) :
    Calls Tryz.prog 32 #[.agg #[.slice a1 n1 k1, .slice a2 n2 k2, .int .i64 tn, .slice a3 n3 k3, .int .i64 hb, .int .i64 hc, .bool o], .agg #[.slice a1' n1 k1', .slice a2' n2 k2', .int .i64 tn, .slice a3' n3 k3', .int .i64 hb, .int .i64 hc, .bool o]] w fun x w' => x = .returned (.bool true) ∧ Below w.heap.size w w' := by
  have hb0 : Below w.heap.size w ((w.alloc (.cells #[.slice a1 n1 k1, .slice a2 n2 k2, .int .i64 tn, .slice a3 n3 k3, .int .i64 hb, .int .i64 hc, .bool o] 68)).alloc (.cells #[.slice a1' n1 k1', .slice a2' n2 k2', .int .i64 tn, .slice a3' n3 k3', .int .i64 hb, .int .i64 hc, .bool o] 68)) := ((Below.refl _ _).alloc (Nat.le_refl _) _).alloc (by simp) _
  have hr0 : ((w.alloc (.cells #[.slice a1 n1 k1, .slice a2 n2 k2, .int .i64 tn, .slice a3 n3 k3, .int .i64 hb, .int .i64 hc, .bool o] 68)).alloc (.cells #[.slice a1' n1 k1', .slice a2' n2 k2', .int .i64 tn, .slice a3' n3 k3', .int .i64 hb, .int .i64 hc, .bool o] 68)).heap[w.heap.size]? = some (.cells #[.slice a1 n1 k1, .slice a2 n2 k2, .int .i64 tn, .slice a3 n3 k3, .int .i64 hb, .int .i64 hc, .bool o] 68 (0, 0)) := hp_alloc (hp_new _ _) _
  have hr1 : ((w.alloc (.cells #[.slice a1 n1 k1, .slice a2 n2 k2, .int .i64 tn, .slice a3 n3 k3, .int .i64 hb, .int .i64 hc, .bool o] 68)).alloc (.cells #[.slice a1' n1 k1', .slice a2' n2 k2', .int .i64 tn, .slice a3' n3 k3', .int .i64 hb, .int .i64 hc, .bool o] 68)).heap[w.heap.size + 1]? = some (.cells #[.slice a1' n1 k1', .slice a2' n2 k2', .int .i64 tn, .slice a3' n3 k3', .int .i64 hb, .int .i64 hc, .bool o] 68 (0, 0)) := by
    have := hp_new (w.alloc (.cells #[.slice a1 n1 k1, .slice a2 n2 k2, .int .i64 tn, .slice a3 n3 k3, .int .i64 hb, .int .i64 hc, .bool o] 68)) (.cells #[.slice a1' n1 k1', .slice a2' n2 k2', .int .i64 tn, .slice a3' n3 k3', .int .i64 hb, .int .i64 hc, .bool o] 68)
    simpa using this
  have HC := hid (show ∀ W, Below w.heap.size w W → W.heap[w.heap.size]? = some (.cells #[.slice a1 n1 k1, .slice a2 n2 k2, .int .i64 tn, .slice a3 n3 k3, .int .i64 hb, .int .i64 hc, .bool o] 68 (0, 0)) → W.heap[w.heap.size + 1]? = some (.cells #[.slice a1' n1 k1', .slice a2' n2 k2', .int .i64 tn, .slice a3' n3 k3', .int .i64 hb, .int .i64 hc, .bool o] 68 (0, 0)) →
      Calls Tryz.prog 13 #[.slice a1 n1 k1, .slice a1' n1 k1'] W (fun x w' => x = .returned (.bool true) ∧ Below W.heap.size W w') ∧ Calls Tryz.prog 13 #[.slice a2 n2 k2, .slice a2' n2 k2'] W (fun x w' => x = .returned (.bool true) ∧ Below W.heap.size W w') ∧ Calls Tryz.prog 65 #[.slice a3 n3 k3, .slice a3' n3 k3'] W (fun x w' => x = .returned (.bool true) ∧ Below W.heap.size W w') from fun W hbW _ _ => by
    have dn : ∀ w', DN W w' → Below W.heap.size W w' := fun w' h => by
      obtain ⟨q, rfl⟩ := h
      exact below_drewN (Below.refl _ _) q
    obtain ⟨⟨B1, x1⟩, ⟨B2, x2⟩, x3⟩ := h.below hbW
    obtain ⟨⟨B3, y1⟩, ⟨B4, y2⟩, y3⟩ := h'.below hbW
    refine ⟨(files_same x1 y1 (by omega) z1).mono ?_, (files_same x2 y2 (by omega) z2).mono ?_, (ints_same _ _ ps W x3 y3 (by omega)).mono ?_⟩
    all_goals
      rintro e w' ⟨rfl, hd⟩
      exact ⟨rfl, dn w' hd⟩)
  have HB := hid (And.intro hb0 (And.intro hr0 hr1))
  clear h h' hb0 hr0 hr1
  go_enter Tryz.func32, Tryz.ntmps32
  go_wp2_with (first
    | (go_at_call 13
       (with_reducible show Calls _ _ #[.slice a1 n1 k1, .slice a1' n1 k1'] _ _)
       refine (HC.out _ HB.out.1 HB.out.2.1 HB.out.2.2).1.mono ?_
       rintro e w1 ⟨rfl, hb1⟩
       have hr0 := hp_below HB.out.2.1 hb1 (hp_lt HB.out.2.1)
       have hr1 := hp_below HB.out.2.2 hb1 (hp_lt HB.out.2.2)
       obtain ⟨x0, x1, x2, x3, x4, x5, x6⟩ := cells7 hr0
       obtain ⟨y0, y1, y2, y3, y4, y5, y6⟩ := cells7 hr1
       have H1 := hid (And.intro (HB.out.1.trans (hb1.mono HB.out.1.size)) (And.intro hr0 hr1))
       clear hb1 hr0 hr1)
    | (go_at_call 13
       (with_reducible show Calls _ _ #[.slice a2 n2 k2, .slice a2' n2 k2'] _ _)
       refine (HC.out _ H1.out.1 H1.out.2.1 H1.out.2.2).2.1.mono ?_
       rintro e w2 ⟨rfl, hb2⟩
       clear x0 x1 x2 x3 x4 x5 x6 y0 y1 y2 y3 y4 y5 y6
       have hr0 := hp_below H1.out.2.1 hb2 (hp_lt H1.out.2.1)
       have hr1 := hp_below H1.out.2.2 hb2 (hp_lt H1.out.2.2)
       obtain ⟨x0, x1, x2, x3, x4, x5, x6⟩ := cells7 hr0
       obtain ⟨y0, y1, y2, y3, y4, y5, y6⟩ := cells7 hr1
       have H2 := hid (And.intro (H1.out.1.trans (hb2.mono H1.out.1.size)) (And.intro hr0 hr1))
       clear hb2 hr0 hr1)
    | (go_at_call 65
       refine (HC.out _ H2.out.1 H2.out.2.1 H2.out.2.2).2.2.mono ?_
       rintro e w3 ⟨rfl, hb3⟩
       clear x0 x1 x2 x3 x4 x5 x6 y0 y1 y2 y3 y4 y5 y6
       have hr0 := hp_below H2.out.2.1 hb3 (hp_lt H2.out.2.1)
       have hr1 := hp_below H2.out.2.2 hb3 (hp_lt H2.out.2.2)
       obtain ⟨x0, x1, x2, x3, x4, x5, x6⟩ := cells7 hr0
       obtain ⟨y0, y1, y2, y3, y4, y5, y6⟩ := cells7 hr1
       have H3 := hid (H2.out.1.trans (hb3.mono H2.out.1.size))
       clear hb3 hr0 hr1))
  go_ret
  exact ⟨by simp, H3.out⟩

end Go.Proofs.YtlmompdfombgeabGreat
