import Derived.Test.YthcoigbkdbkojabGreatK25
set_option maxRecDepth 100000
namespace Go.Proofs.YthcoigbkdbkojabGreat
open Go.RowKit Go.MapKept Go.Maps Go.Sort Go.Shelf
def anyR : Value → Option (DataW Unit × List MemPlace) := fun _ => some (.lit (.bool true), [])
theorem MG.stamped {κ : Type} [DecidableEq κ] {K : Ky κ} {w : World} {b c : Nat} {kv : List (κ × Value)} {es : Array MapEntry} (h : MG K w b kv es c) (hi : ∀ a b, K.enc a = K.enc b → a = b) : Stamped es c := by
  refine ⟨h.hold, h.nd, ?_⟩
  have e1 : es.toList.map (·.key) = (kv.map Prod.fst).map K.enc := by
    have := congrArg (List.map Prod.fst) h.kvs
    simpa [List.map_map, Function.comp_def] using this
  rw [e1]
  exact List.Pairwise.map _ (fun a b hab e => hab (hi a b e)) h.keys
theorem rg_KS {w : World} {b c : Nat} {nv : List (ByteArray × Value)} {es : Array MapEntry} (h : MG KS w b nv es c) (hs : ∀ x ∈ nv, x.1.size ≤ maxLen) :
    (∀ e ∈ es.toList, ∃ s : ByteArray, e.key = .string s ∧ s.size ≤ maxLen) := by
  intro e he
  have hm : (e.key, e.val) ∈ nv.map (fun x => (KS.enc x.1, x.2)) := by
    rw [← h.kvs]
    exact List.mem_map.2 ⟨e, he, rfl⟩
  obtain ⟨x, hx, hxe⟩ := List.mem_map.1 hm
  injection hxe with h1 h2
  exact ⟨x.1, h1.symm, hs x hx⟩
theorem owns_KS {w : World} {b c : Nat} {nv : List (ByteArray × Value)} {es : Array MapEntry} (h : MG KS w b nv es c) (hs : ∀ x ∈ nv, x.1.size ≤ maxLen) (hn : nv.length ≤ 1000000) :
    w.ownsMap Tryz.prog 9 anyR b nv.length (.map ((es.toList.map (WideElems.rg Tryz.prog 9 anyR)).foldr DataW.insert [])) := by
  have hk : ∀ e ∈ es.toList, ∃ s : ByteArray, keyOf Tryz.prog 9 e.key = some (.string s.data.toList) ∧ e.key = .string s := fun e he => by
    obtain ⟨s, h1, h2⟩ := rg_KS h hs e he
    exact ⟨s, by rw [h1]; exact WideMaps.keyOf_string_mk Tryz.underlying9 h2, h1⟩
  refine ⟨es, c, h.blk, ⟨by rw [h.size]; unfold maxLen; omega, ?_, ?_⟩, by rw [h.size]; exact Nat.le_refl _, rfl⟩
  · exact h.stamped (fun a b e => by injection e)
  · intro e he
    obtain ⟨s, h1, _⟩ := hk e he
    exact ⟨(.string s.data.toList, .lit (.bool true)), by simp [WideElems.rd, h1, anyR]⟩
theorem strKeys_KS {w : World} {b c : Nat} {nv : List (ByteArray × Value)} {es : Array MapEntry} (h : MG KS w b nv es c) (hs : ∀ x ∈ nv, x.1.size ≤ maxLen) :
    (strKeys (.map ((es.toList.map (WideElems.rg (H := Unit) Tryz.prog 9 anyR)).foldr DataW.insert []))).Perm (nv.map (fun x => x.1.data.toList)) := by
  have h1 : ((es.toList.map (WideElems.rg (H := Unit) Tryz.prog 9 anyR)).map (fun p => Go.strOf p.1)) = nv.map (fun x => x.1.data.toList) := by
    have e1 : (es.toList.map (WideElems.rg (H := Unit) Tryz.prog 9 anyR)).map (fun p => Go.strOf p.1) = (es.toList.map (fun e => (e.key, e.val))).map (fun x => match x.1 with | .string s => s.data.toList | _ => []) := by
      rw [List.map_map, List.map_map]
      apply List.map_congr_left
      intro e he
      obtain ⟨s, h2, h3⟩ := rg_KS h hs e he
      have hk : keyOf Tryz.prog 9 (.string s) = some (.string s.data.toList) := WideMaps.keyOf_string_mk Tryz.underlying9 h3
      simp [WideElems.rg, WideElems.rd, hk, anyR, Go.strOf, h2]
    rw [e1, h.kvs, List.map_map]
    rfl
  rw [← h1]
  exact (WideShapes.sorted_perm _).map _
theorem sort_perm {l l' : List (List UInt8)} (h : l.Perm l') : l.mergeSort (fun x y => decide (x ≤ y)) = l'.mergeSort (fun x y => decide (x ≤ y)) := by
  have ht : ∀ a b c : List UInt8, decide (a ≤ b) = true → decide (b ≤ c) = true → decide (a ≤ c) = true := fun a b c h1 h2 => by
    simp at h1 h2 ⊢
    exact List.le_trans h1 h2
  have hto : ∀ a b : List UInt8, (decide (a ≤ b) || decide (b ≤ a)) = true := fun a b => by
    simp
    exact List.le_total a b
  refine List.Perm.eq_of_pairwise (le := fun a b => decide (a ≤ b) = true) ?_ (List.pairwise_mergeSort ht hto l) (List.pairwise_mergeSort ht hto l') ((List.mergeSort_perm l _).trans (h.trans (List.mergeSort_perm l' _).symm))
  intro a b _ _ h1 h2
  simp at h1 h2
  exact List.le_antisymm h1 h2
def sk (nv : List (ByteArray × Value)) : List (List UInt8) := (nv.map (fun x => x.1.data.toList)).mergeSort (fun x y => decide (x ≤ y))
theorem keys_m (M : Nat) (w : World) : Calls Tryz.prog 79 #[.map (some M)] w fun e w' => e = .returned (.func (.func 108) #[] #[.pointer (some ⟨w.heap.size, 0, none⟩)]) ∧ w' = w.alloc (.cells #[.map (some M)] 74) := callsIn_wide.1 (Tmaps_Keys_100 (some M) w)
theorem sorted_m {w : World} {b c : Nat} {nv : List (ByteArray × Value)} {es : Array MapEntry} (h : MG KS w b nv es c) (hs : ∀ x ∈ nv, x.1.size ≤ maxLen) (hn : nv.length ≤ 1000000) :
    Calls Tryz.prog 78 #[.func (.func 108) #[] #[.pointer (some ⟨w.heap.size, 0, none⟩)]] (w.alloc (.cells #[.map (some b)] 74)) fun e w' => ∃ v, e = .returned v ∧ w'.ownsRow w.heap.size 9 1 v nv.length ((sk nv).map encStr) ∧ Below w.heap.size w w' := by
  have hp := strKeys_KS h hs
  have hlen : Maps.size (DataW.map ((es.toList.map (WideElems.rg (H := Unit) Tryz.prog 9 anyR)).foldr DataW.insert [])) = nv.length := by
    have := (WideShapes.sorted_perm (es.toList.map (WideElems.rg (H := Unit) Tryz.prog 9 anyR))).length_eq
    simp [Maps.size, this, ← h.size]
  refine (callsIn_wide.1 (Tslices_Sorted_keys_99_100 b nv.length _ anyR w (owns_KS h hs hn) (by rw [hlen]; unfold maxLen; omega) (by rw [hlen]; omega))).mono ?_
  rintro e w' ⟨v, ss, rfl, hss, ho, -, hb⟩
  have hl : ss.length = nv.length := by simpa using (hss.trans hp).length_eq
  rw [sort_perm (hss.trans hp), hl] at ho
  exact ⟨v, rfl, owns_mono ho (by simp), ((Below.refl _ w).alloc (Nat.le_refl _) _).trans (hb.mono (by simp))⟩
end Go.Proofs.YthcoigbkdbkojabGreat
namespace Go.Proofs.YthcoigbkdbkojabGreat
open Go.RowKit Go.MapKept
open V (hp_new hp_lt hp_below hp_alloc)
theorem Tryz.info45 : (Tryz.prog.info? 45).map (fun i => (i.zero, i.size, i.bytes)) = some (some (.agg #[.string ⟨#[]⟩, .int .i64 0, .int .i64 0, .string ⟨#[]⟩]), 4, 48) := by kernel_rfl
theorem ones4 (a b c d : Value) (h1 : a.oneCell' = true) (h2 : b.oneCell' = true) (h3 : c.oneCell' = true) (h4 : d.oneCell' = true) : ∀ u ∈ (#[a, b, c, d] : Array Value).toList, u.oneCell' = true := by
  intro u hu
  simp at hu
  rcases hu with rfl | rfl | rfl | rfl <;> assumption
theorem ecs_one (l : List (ByteArray × Vd)) : ∀ u ∈ l.flatMap ecs, u.oneCell' = true := by
  intro u hu
  obtain ⟨x, _, hx⟩ := List.mem_flatMap.1 hu
  simp [ecs] at hx
  rcases hx with rfl | rfl | rfl | rfl <;> rfl
theorem ret_eff2 {fn : Func} {p : Tmp} (h : fn.results = #[.cell p 40]) {tmps : Array Value} {r : Nat} {w : World} {a b c d e : Value} (ht : tmps.getD p undef = .pointer (some ⟨r, 0, none⟩)) (hb : w.heap[r]? = some (.cells #[a, b, c, d, e] 40 (0, 0))) :
    (results fn tmps).run Tryz.prog w = .ok (.agg #[a, b, c, d, e]) w := by
  have ht2 := ht
  simp only [Array.getD_eq_getD_getElem?] at ht2
  simp only [results, h]
  simp [ht2, load43 hb, asAddr]
def vdOfM : Value → Vd | .agg #[.int _ k, .int _ i, .string t] => ⟨k, i, t⟩ | _ => ⟨0, 0, emp⟩
def lkpM {κ : Type} [DecidableEq κ] (k : κ) (kv : List (κ × Value)) : Option Value := kv.lookup k
theorem lkpM_mem {κ : Type} [DecidableEq κ] {k : κ} : ∀ {kv : List (κ × Value)}, k ∈ kv.map Prod.fst → ∃ v, lkpM k kv = some v ∧ (k, v) ∈ kv
  | [], h => (by cases h)
  | (a, v) :: l, h => by
    unfold lkpM
    by_cases e : k = a
    · subst e
      exact ⟨v, by simp [List.lookup], List.mem_cons_self ..⟩
    · have h2 : k ∈ l.map Prod.fst := by
        rcases List.mem_cons.1 h with h | h
        · exact absurd h e
        · exact h
      obtain ⟨u, h3, h4⟩ := lkpM_mem h2
      refine ⟨u, ?_, List.mem_cons_of_mem _ h4⟩
      have hb : (k == a) = false := by simpa using e
      simp only [List.lookup, hb]
      exact h3
theorem sk_key {kv : List (ByteArray × Value)} {bs : List UInt8} (h : bs ∈ sk kv) : (⟨bs.toArray⟩ : ByteArray) ∈ kv.map Prod.fst := by
  unfold sk at h
  have h2 := (List.mergeSort_perm _ _).mem_iff.1 h
  obtain ⟨x, hx, e⟩ := List.mem_map.1 h2
  refine List.mem_map.2 ⟨x, hx, ?_⟩
  rw [← e]
def dnL (kv : List (ByteArray × Value)) : List (ByteArray × Vd) := (sk kv).map fun bs => (⟨bs.toArray⟩, vdOfM ((lkpM (⟨bs.toArray⟩ : ByteArray) kv).getD (vl 0 0 emp)))
section
variable {w w' : World} {B mb M : Nat} {s : Ms} {td : List Vd} {lk : List (ByteArray × ByteArray)} {kv : List (ByteArray × Value)}
set_option maxHeartbeats 6400000 in
theorem done_any (h : MX w B mb s td lk M kv) (hn : kv.length ≤ 1000) (hs : ∀ x ∈ kv, x.1.size ≤ 1000000) (hv : ∀ x ∈ kv, ∃ d : Vd, x.2 = d.val ∧ d.t.size ≤ 1000000) :
    Calls Tryz.prog 43 #[.pointer (some ⟨mb, 0, none⟩)] w fun e w' => ∃ a c, e = .returned (.agg #[.int .i64 1, .int .i64 0, s.tv, .slice a kv.length c, s.lv]) ∧ w'.ownsRow w.heap.size 45 4 (.slice a kv.length c) kv.length ((dnL kv).flatMap ecs) ∧ Below w.heap.size w w' := by
  obtain ⟨a1, q1, htv⟩ := own_shape h.td
  obtain ⟨a2, q2, hlv⟩ := own_shape h.lk
  rw [htv, hlv]
  obtain ⟨-, -, -, c3, c4, c5⟩ := h.m.cells
  rw [htv] at c3
  rw [hlv] at c5
  rw [h.wv] at c4
  have hml := h.m.lt
  obtain ⟨es, cc, g⟩ := h.mg
  have H := hid (And.intro h (And.intro g (And.intro hs hv)))
  clear h g hs hv htv hlv
  go_enter Tryz.func43, Tryz.ntmps43
  go_upto_region 1 with fail
  go_region
  have hbA : Below w.heap.size w ((w.alloc (.cells #[.int .i64 0, .int .i64 0, .slice none 0 0, .slice none 0 0, .slice none 0 0] 40)).alloc (.cells #[.int .i64 1, .int .i64 0, .slice a1 td.length q1, .slice none 0 0, .slice a2 lk.length q2] 40)).drew := ((below1 w _).alloc (by simp) _).drew
  refine cutG (fun W => W.heap[w.heap.size]? = some (.cells #[.int .i64 0, .int .i64 0, .slice none 0 0, .slice none 0 0, .slice none 0 0] 40 (0, 0)) ∧ W.heap[w.heap.size + 1]? = some (.cells #[.int .i64 1, .int .i64 0, .slice a1 td.length q1, .slice none 0 0, .slice a2 lk.length q2] 40 (0, 0)) ∧ Below w.heap.size w W) ⟨two1 w _ _, two2 w _ _, hbA⟩ ?_
  clear hbA
  rintro W1 ⟨hr0, hr1, hbW⟩
  have c4' : W1.cell? ⟨mb, 52, none⟩ = some (.map (some M)) := (hbW.cell (p := ⟨mb, 52, none⟩) hml).trans c4
  have HW := hid (And.intro hr0 (And.intro hr1 hbW))
  have HK := hid (keys_m M W1)
  have HSO := hid (sorted_m (H.out.2.1.below hbW) (fun x hx => Nat.le_trans (H.out.2.2.1 x hx) (by unfold maxLen; omega)) (by omega))
  clear hr0 hr1 hbW c3 c5 c4
  go_wp2_with (first
    | (go_at_call 79
       refine HK.out.mono ?_
       rintro e w' ⟨rfl, e1⟩
       rw [e1]
       clear e1 w')
    | (go_at_call 78
       refine HSO.out.mono ?_
       rintro e w2 ⟨v2, rfl, ho2, hb2⟩
       obtain ⟨ak, ck, rfl⟩ := own_shape ho2
       have H2 := hid (And.intro ho2 hb2)
       clear ho2 hb2))
  have HL := hid (show (sk kv).length = kv.length ∧ (dnL kv).length = kv.length by unfold dnL; rw [List.length_map]; simp [sk, List.length_mergeSort])
  have hw2 := H2.out.2.size
  have HR0 := hid (And.intro (blk_of H2.out.2 HW.out.1 (hp_lt HW.out.1)) (And.intro (blk_of H2.out.2 HW.out.2.1 (hp_lt HW.out.2.1)) (below_on HW.out.2.2 H2.out.2)))
  go_loopw [23] (fun ix wr => ∃ (k : Nat) (a : Option Addr) (c : Nat), k ≤ kv.length ∧ ix = .int .i64 k ∧ Hid (wr.heap[w.heap.size]? = some (.cells #[.int .i64 0, .int .i64 0, .slice none 0 0, .slice none 0 0, .slice none 0 0] 40 (0, 0)) ∧ wr.heap[w.heap.size + 1]? = some (.cells #[.int .i64 1, .int .i64 0, .slice a1 td.length q1, .slice a k c, .slice a2 lk.length q2] 40 (0, 0)) ∧ wr.ownsRow w2.heap.size 45 4 (.slice a k c) k (((dnL kv).take k).flatMap ecs) ∧ Kept (fun q => q = w.heap.size + 1) w2 wr)) (fun ix _ => kv.length - (intOf ix).toNat)
  case atStart => exact ⟨0, none, 0, Nat.zero_le _, by go_num, hid ⟨HR0.out.1, HR0.out.2.1, owns_nil _ _ _ _, Kept.refl _ _⟩⟩
  case round =>
    obtain ⟨k, a, c, hk, rfl, HR⟩ := hrel
    by_cases hlt : k < kv.length
    · have i1 : (k : Int) < (kv.length : Int) := by omega
      obtain ⟨bs, hbs⟩ : ∃ bs, (sk kv)[k]? = some bs := ⟨(sk kv)[k]'(by rw [HL.out.1]; exact hlt), List.getElem?_eq_getElem _⟩
      have hkr := ownsRow_kept H2.out.1 HR.out.2.2.2 (fun q e e2 => by have h1 := (H2.out.1.lt q e).1; have h3 := hp_lt HW.out.2.1; omega)
      obtain ⟨gk, ck2, ek⟩ : ∃ g c', (Value.slice ak kv.length ck) = .slice (some ⟨g, 0, none⟩) kv.length c' := by
        rcases hkr.2 with ⟨_, e⟩ | ⟨g, cap, cur, e, _⟩
        · omega
        · exact ⟨g, cap, e⟩
      injection ek with e1 _ e3
      subst e1 e3
      have kc := hkr.cells (g := gk) rfl k (.string ⟨bs.toArray⟩) (by rw [List.getElem?_map, hbs]; rfl)
      rw [add_lit, Nat.zero_add] at kc
      obtain ⟨key, hkey⟩ : ∃ key : ByteArray, key = ⟨bs.toArray⟩ := ⟨_, rfl⟩
      obtain ⟨vv, hl1, hl2⟩ := lkpM_mem (sk_key (List.mem_of_getElem? hbs))
      obtain ⟨d, hd1, hd2⟩ := H.out.2.2.2 _ hl2
      have hks := H.out.2.2.1 _ hl2
      have hdn : (dnL kv)[k]? = some (key, d) := by
        unfold dnL
        rw [List.getElem?_map, hbs]
        show some ((⟨bs.toArray⟩ : ByteArray), vdOfM ((lkpM (⟨bs.toArray⟩ : ByteArray) kv).getD (vl 0 0 emp))) = _
        rw [hl1, hkey, Option.getD_some]
        dsimp only at hd1
        rw [hd1]
        rfl
      rw [← hkey] at kc hl1 hks
      dsimp only at hks hd1
      rw [hd1] at hl1
      have HLK := hid (show ∀ W, Below w.heap.size w W → (Instr.lookup 74 (.map (some M)) (.string key) false).run Tryz.prog W = .ok (vl d.k d.i d.t) W ∧ W.cell? ⟨mb, 52, none⟩ = some (.map (some M)) from fun W hb => by
        have h1 := (H.out.2.1.below hb).look Tryz.underlying74 Tryz.underlying9 (zero28 W) key false
        refine ⟨?_, ?_⟩
        · unfold lkpM at hl1
          rw [hl1] at h1
          exact h1
        · obtain ⟨-, -, -, -, c4, -⟩ := (H.out.1.below hb).m.cells
          rw [H.out.1.wv] at c4
          exact c4)
      have HRW := hid (show Below w.heap.size w wr from (HR0.out.2.2.trans (HR.out.2.2.2.below (Nat.le_trans HW.out.2.2.size hw2) (fun q hq e => by omega))))
      have HBX := hid (show ∀ W, Below wr.heap.size wr W → W.cell? ⟨w.heap.size + 1, 3, none⟩ = some (.slice a k c) ∧ W.heap[w.heap.size + 1]? = some (.cells #[.int .i64 1, .int .i64 0, .slice a1 td.length q1, .slice a k c, .slice a2 lk.length q2] 40 (0, 0)) from fun W hb => by
        have h1 := blk_of hb HR.out.2.1 (hp_lt HR.out.2.1)
        exact ⟨by rw [cell_of_row _ _ _ _ _ _ h1]; rfl, h1⟩)
      have HC1 := hid (fun W => strClone_any key W (by omega))
      have HC2 := hid (fun W => copied_m d.k d.i d.t (by omega) W)
      have HDN := hid hdn
      have kck := kc
      clear hkr hbs hl1 hl2 hd1 hdn hkey
      go_upto_region 5 with fail
      obtain ⟨hm0, hm1⟩ := HLK.out wr.drew HRW.out.drew
      obtain ⟨hb0, -⟩ := HBX.out wr.drew ((Below.refl _ wr).drew)
      go_region_law
        (first
          | (refine step_append_rf _ (by rfl) (.tmp 28) (.tmp 39) 22 45 _ 4 48 (by rfl) Tryz.underlying22 Tryz.info45 rfl (by omega) w2.heap.size (.slice a k c) k (((dnL kv).take k).flatMap ecs) (by rfl) (HO.out.alloc _) (.slice (some ⟨w4.heap.size, 0, none⟩) 1 1) 1 [.string key, .int .i64 d.k, .int .i64 d.i, .string d.t] (by rfl) (rf_new w4 45 #[.string key, .int .i64 d.k, .int .i64 d.i, .string d.t] 4 rfl (ones4 _ _ _ _ rfl rfl rfl rfl)) (by omega) (by unfold maxLen; omega) HZ.out ?_; intro a9 c9 w9 hown hgr hob; have HGR := hid (And.intro hown.out (And.intro hgr.out hob.out)); have hx9 := HNX.out w9 hgr.out; obtain ⟨z3, z4, z5⟩ := hx9; clear hown hgr hob)
          | (go_simp; go_wp2_with (first
              | (go_at_call 80; refine (HC1.out _).mono ?_; rintro e w3 ⟨rfl, hb3'⟩; have hb3 := (show Below wr.heap.size wr w3 from ⟨hb3'.os, hb3'.tape, hb3'.output, hb3'.size, hb3'.block⟩); obtain ⟨hm3, hm4⟩ := HLK.out w3 (below_on HRW.out hb3); obtain ⟨hb5, -⟩ := HBX.out w3 hb3; have HB3 := hid hb3; clear hb3 hb3')
              | (go_at_call 81; refine (HC2.out _).mono ?_; rintro e w4 ⟨rfl, hb4⟩; have HB4 := hid (below_on HB3.out hb4); obtain ⟨hb6, -⟩ := HBX.out w4 HB4.out; obtain ⟨hb7, -⟩ := HBX.out (w4.alloc (.cells #[.string key, .int .i64 d.k, .int .i64 d.i, .string d.t] 45)) (HB4.out.alloc HB4.out.size _); have HO := hid (ownsRow_kept HR.out.2.2.1 (Kept.ofBelow HB4.out) (fun _ _ e => e)); have HZ := hid (show w2.heap.size ≤ (w4.alloc (.cells #[.string key, .int .i64 d.k, .int .i64 d.i, .string d.t] 45)).heap.size by have h1 := HB4.out.size; have h2 := HR.out.2.2.2.size; simp; omega); have HNX := hid (show ∀ W, (w4.alloc (.cells #[.string key, .int .i64 d.k, .int .i64 d.i, .string d.t] 45)).grownBy W (Value.slice a k c).ownBlock → W.cell? ⟨w.heap.size + 1, 3, none⟩ = some (.slice a k c) ∧ (∀ o, W.frozen? ⟨w.heap.size + 1, o, none⟩ = false) ∧ w.heap.size + 1 < W.heap.size from fun W hg => by
                  have h1 := hp_alloc (HBX.out w4 HB4.out).2 (.cells #[.string key, .int .i64 d.k, .int .i64 d.i, .string d.t] 45)
                  have h2 := hpk h1 ((Kept.refl (fun q => (Value.slice a k c).ownBlock = some q) _).grown hg (fun _ _ e => e)) (fun e => owns_blk HO.out e (HBX.out w4 HB4.out).2 (fun cs e => by injection e with _ e; cases e))
                  exact ⟨by rw [cell_of_row _ _ _ _ _ _ h2]; rfl, fun o => free_of_block h2, hp_lt h2⟩); clear hb4))))
      all_goals
        go_wp2_with fail
        have KA : Kept (fun q => (Value.slice a k c).ownBlock = some q) wr w9 := ((Kept.ofBelow HB4.out).mono (S' := fun q => (Value.slice a k c).ownBlock = some q) (fun _ _ e => e.elim)).trans (((Kept.refl _ w4).alloc _).grown HGR.out.2.1 (fun _ _ e => e)) (fun _ _ e => e)
        have hE0 := hpk HR.out.1 KA (fun e => owns_blk HR.out.2.2.1 e HR.out.1 (fun cs e => by injection e with _ e; cases e))
        have hB9 := hpk HR.out.2.1 KA (fun e => owns_blk HR.out.2.2.1 e HR.out.2.1 (fun cs e => by injection e with _ e; cases e))
        have hK9 : Kept (fun q => q = w.heap.size + 1) w9 (w9.setCell ⟨w.heap.size + 1, 3, none⟩ (.slice a9 (k + 1) c9)) := (Kept.refl (fun q => q = w.heap.size + 1) w9).setCell (p := ⟨w.heap.size + 1, 3, none⟩) (fun _ => rfl) _
        have hrow : w9.ownsRow w2.heap.size 45 4 (.slice a9 (k + 1) c9) (k + 1) (((dnL kv).take (k + 1)).flatMap ecs) := by
          rw [List.take_add_one, HDN.out, List.flatMap_append]
          exact HGR.out.1
        have HF := hid (show (w9.setCell ⟨w.heap.size + 1, 3, none⟩ (.slice a9 (k + 1) c9)).heap[w.heap.size]? = some (.cells #[.int .i64 0, .int .i64 0, .slice none 0 0, .slice none 0 0, .slice none 0 0] 40 (0, 0)) ∧ (w9.setCell ⟨w.heap.size + 1, 3, none⟩ (.slice a9 (k + 1) c9)).heap[w.heap.size + 1]? = some (.cells #[.int .i64 1, .int .i64 0, .slice a1 td.length q1, .slice a9 (k + 1) c9, .slice a2 lk.length q2] 40 (0, 0)) ∧ (w9.setCell ⟨w.heap.size + 1, 3, none⟩ (.slice a9 (k + 1) c9)).ownsRow w2.heap.size 45 4 (.slice a9 (k + 1) c9) (k + 1) (((dnL kv).take (k + 1)).flatMap ecs) ∧ Kept (fun q => q = w.heap.size + 1) w2 (w9.setCell ⟨w.heap.size + 1, 3, none⟩ (.slice a9 (k + 1) c9)) from
          ⟨hpk hE0 hK9 (by omega), V.set_block (i := 3) hB9 _, ownsRow_kept hrow hK9 (fun q e e2 => owns_blk hrow (k := w.heap.size + 1) (by rw [← e2]; exact e) hB9 (fun cs e => by injection e with _ e; cases e)), (HR.out.2.2.2.trans KA (fun q hq e => by have := (HR.out.2.2.1.lt q e).1; omega)).trans hK9 (fun _ _ e => e)⟩)
        clear KA hE0 hB9 hK9 hrow
        go_roundw
        case rel => first | exact ⟨k + 1, a9, c9, by omega, by go_num, HF⟩ | ((repeat apply Exists.intro); exact ⟨⟨k + 1, a9, c9, by omega, by go_num, HF⟩, rfl⟩)
        case measure => simp [intOf]; omega
    · obtain rfl : kv.length = k := by omega
      have i1 : ¬ (kv.length : Int) < (kv.length : Int) := by omega
      obtain ⟨f0, f1, f2, f3, f4, f5⟩ := cells5f HR.out.1
      obtain ⟨g0, g1, g2, g3, g4, g5⟩ := cells5f HR.out.2.1
      go_wp2_with fail
      refine bodyPost_ret (ret_eff2 Tryz.results43 rfl (set5 HR.out.1 _ _ _ _ _)) rfl ?_
      have hK : Kept (fun q => q = w.heap.size) wr (((((wr.setCell ⟨w.heap.size, 0, none⟩ (.int .i64 1)).setCell ⟨w.heap.size, 1, none⟩ (.int .i64 0)).setCell ⟨w.heap.size, 2, none⟩ (.slice a1 td.length q1)).setCell ⟨w.heap.size, 3, none⟩ (.slice a kv.length c)).setCell ⟨w.heap.size, 4, none⟩ (.slice a2 lk.length q2)) := (((((Kept.refl (fun q => q = w.heap.size) wr).setCell (p := ⟨w.heap.size, 0, none⟩) (fun _ => rfl) _).setCell (p := ⟨w.heap.size, 1, none⟩) (fun _ => rfl) _).setCell (p := ⟨w.heap.size, 2, none⟩) (fun _ => rfl) _).setCell (p := ⟨w.heap.size, 3, none⟩) (fun _ => rfl) _).setCell (p := ⟨w.heap.size, 4, none⟩) (fun _ => rfl) _
      have hbr : Below w.heap.size w wr := HR0.out.2.2.trans (HR.out.2.2.2.below (Nat.le_trans HW.out.2.2.size hw2) (fun q hq e => by omega))
      have hro := ownsRow_kept HR.out.2.2.1 hK (fun q e e2 => owns_blk HR.out.2.2.1 (k := w.heap.size) (by rw [← e2]; exact e) HR.out.1 (fun cs e => by injection e with _ e; cases e))
      rw [List.take_of_length_le (by rw [HL.out.2]; exact Nat.le_refl _)] at hro
      exact ⟨_, _, rfl, owns_mono hro (Nat.le_trans HW.out.2.2.size hw2), hbr.trans (hK.below hbr.size (fun q hq e => by omega))⟩
end
theorem Va.below {w w' : World} {v : Value} {l : List Vd} (h : Va w v l) (hb : Below w.heap.size w w') : Va w' v l := by
  obtain ⟨ao, cap, h1, h2, h3⟩ := h
  refine ⟨ao, cap, h1, h2, fun hn => ?_⟩
  obtain ⟨b, off, h4, h5⟩ := h3 hn
  refine ⟨b, off, h4, fun j x hx => ?_⟩
  obtain ⟨a1, a2, a3⟩ := h5 j x hx
  exact ⟨(hb.cell (World.block_lt_of_cell? _ _ a1)).trans a1, (hb.cell (World.block_lt_of_cell? _ _ a2)).trans a2, (hb.cell (World.block_lt_of_cell? _ _ a3)).trans a3⟩
def mc0 (vw av : Value) : Mc := ⟨vw, av, fun _ => ⟨0, 0, emp⟩, [], [], []⟩
abbrev mcs (vw av : Value) (M : Nat) : Array Value := #[vw, av, .int .i64 0,
  .int .i64 0, .int .i64 0, .string emp, .int .i64 0, .int .i64 0, .string emp, .int .i64 0, .int .i64 0, .string emp, .int .i64 0, .int .i64 0, .string emp,
  .int .i64 0, .int .i64 0, .string emp, .int .i64 0, .int .i64 0, .string emp, .int .i64 0, .int .i64 0, .string emp, .int .i64 0, .int .i64 0, .string emp,
  .int .i64 0, .int .i64 0, .string emp, .int .i64 0, .int .i64 0, .string emp, .int .i64 0, .int .i64 0, .string emp, .int .i64 0, .int .i64 0, .string emp,
  .int .i64 0, .int .i64 0, .string emp, .int .i64 0, .int .i64 0, .string emp, .int .i64 0, .int .i64 0, .string emp, .int .i64 0, .int .i64 0, .string emp,
  .slice none 0 0, .map (some M), .slice none 0 0]
theorem mb0 {w : World} {mb M : Nat} {vw av : Value} (h : w.heap[mb]? = some (.cells (mcs vw av M) 77 (0, 0))) : Mb w mb ((mc0 vw av).ms 0 (.slice none 0 0) (.slice none 0 0) M) := by
  refine ⟨_, h, rfl, rfl, rfl, rfl, rfl, rfl, rfl, fun r hr => ?_⟩
  rcases (by omega : r = 0 ∨ r = 1 ∨ r = 2 ∨ r = 3 ∨ r = 4 ∨ r = 5 ∨ r = 6 ∨ r = 7 ∨ r = 8 ∨ r = 9 ∨ r = 10 ∨ r = 11 ∨ r = 12 ∨ r = 13 ∨ r = 14 ∨ r = 15) with rfl | rfl | rfl | rfl | rfl | rfl | rfl | rfl | rfl | rfl | rfl | rfl | rfl | rfl | rfl | rfl <;> exact ⟨rfl, rfl, rfl⟩
theorem my0 {w : World} {B mb M : Nat} {vw av : Value} (h : w.heap[mb]? = some (.cells (mcs vw av M) 77 (0, 0))) (hm : w.heap[M]? = some (.map #[] 0)) (h1 : B ≤ mb) (h2 : B ≤ M) : MY w B mb M 0 (mc0 vw av) :=
  ⟨.slice none 0 0, .slice none 0 0, mb0 h, h1, owns_nil _ _ _ _, owns_nil _ _ _ _, rfl, ⟨#[], 0, ⟨hm, (fun _ h => nomatch h), List.nodup_nil, rfl, List.nodup_nil⟩⟩, h2⟩
set_option maxHeartbeats 8000000 in
theorem run12_of (vt : TypeId) (pv : Nat) (av S : Value) (nm : ByteArray) (ar : Int) (xs : List Ins) (l : List Vd) (w : World) (R1 : Int) (hc : CodeAt w S xs) (ha : Va w av l) (hl : xs.length ≤ 64) (hla : l.length ≤ 1000)
    (hp : procChk nm ar xs = (R1, 0)) (hv : ∀ x ∈ l, chk x.k x.i x.t = 0) (har : ar = l.length) (Q : Value → World → Prop)
    (hr : ∀ W1 W mb M, Below w.heap.size w W1 → w.heap.size + 2 ≤ W1.heap.size → MY W W1.heap.size mb M 0 (mc0 (.iface vt (.pointer (some ⟨pv, 0, none⟩))) av) → Below W1.heap.size W1 W → Calls Tryz.prog 22 #[.pointer (some ⟨mb, 0, none⟩), S] W fun e w' => ∃ st at_ t1 n1 k1 t2 n2 k2 t3 n3 k3, e = .returned (.agg #[.int .i64 st, .int .i64 at_, .slice t1 n1 k1, .slice t2 n2 k2, .slice t3 n3 k3]) ∧ Q (.agg #[.int .i64 st, .int .i64 at_, .slice t1 n1 k1, .slice t2 n2 k2, .slice t3 n3 k3]) w' ∧ Below W1.heap.size W w')
    (hQ : ∀ v W W', Q v W → Kept (fun k => k = w.heap.size + 1) W W' → Q v W') :
    Calls Tryz.prog 7 #[.iface vt (.pointer (some ⟨pv, 0, none⟩)), .agg #[.string nm, .int .i64 ar, S], av] w fun e w' => ∃ v, e = .returned v ∧ Q v w' ∧ Below w.heap.size w w' := by
  obtain ⟨aa, ca, rfl, hca, hca2⟩ := ha
  obtain ⟨ac, cc, rfl, hcc, hcc2⟩ := hc
  have hmm := @run_makeMap Tryz.prog
  have HPC := hid (show ∀ W, Below w.heap.size w W → Calls Tryz.prog 20 #[.agg #[.string nm, .int .i64 ar, .slice ac xs.length cc]] W fun e w' => e = .returned (.tuple #[.int .i64 R1, .int .i64 0]) ∧ Below W.heap.size W w' from fun W hb => by
    have h1 := pcheck_any nm ar (.slice ac xs.length cc) xs W (CodeAt.below ⟨ac, cc, rfl, hcc, hcc2⟩ hb) (by omega)
    rw [hp] at h1
    exact h1)
  have hVa : Va w (.slice aa l.length ca) l := ⟨aa, ca, rfl, hca, hca2⟩
  have hb2 : Below w.heap.size w ((w.alloc (.cells #[.string nm, .int .i64 ar, .slice ac xs.length cc] 34)).alloc (.cells #[.int .i64 0, .int .i64 0, .slice none 0 0, .slice none 0 0, .slice none 0 0] 40)) := (below1 w _).alloc (by simp) _
  have HB2 := hid (And.intro hb2 (And.intro (two1 w (.cells #[.string nm, .int .i64 ar, .slice ac xs.length cc] 34) (.cells #[.int .i64 0, .int .i64 0, .slice none 0 0, .slice none 0 0, .slice none 0 0] 40)) (two2 w (.cells #[.string nm, .int .i64 ar, .slice ac xs.length cc] 34) (.cells #[.int .i64 0, .int .i64 0, .slice none 0 0, .slice none 0 0, .slice none 0 0] 40))))
  have H := hid (And.intro hVa (And.intro hv (And.intro hr hQ)))
  clear hVa hv hr hQ hp hca2 hcc2 hb2
  subst har
  go_enter Tryz.func7, Tryz.ntmps7
  go_wp2_with (first
    | (go_at_call 20
       refine (HPC.out _ HB2.out.1).mono ?_
       rintro e w2 ⟨rfl, hb2⟩
       have H2 := hid (And.intro (blk_of hb2 HB2.out.2.1 (hp_lt HB2.out.2.1)) (And.intro (blk_of hb2 HB2.out.2.2 (hp_lt HB2.out.2.2)) (And.intro (below_on HB2.out.1 hb2) (show w.heap.size + 2 ≤ w2.heap.size by have := hb2.size; simp at this; omega))))
       clear hb2))
  go_loopw [22] (fun ix wr => ∃ k : Nat, k ≤ l.length ∧ ix = .int .i64 k ∧ Hid (Below w2.heap.size w2 wr)) (fun ix _ => l.length - (intOf ix).toNat)
  case atStart => exact ⟨0, Nat.zero_le _, by go_num, hid (Below.refl _ _)⟩
  case round =>
    obtain ⟨k, hk, rfl, HR⟩ := hrel
    by_cases hlt : k < l.length
    · have i1 : (k : Int) < (l.length : Int) := by omega
      obtain ⟨ao2, cap2, e, -, hcd⟩ := H.out.1
      injection e with e1 _ e3
      obtain ⟨ba, oa, e4, hce⟩ := hcd (fun e => by rw [e] at hlt; simp at hlt)
      subst e1 e3
      subst e4
      have hkx : l[k]? = some l[k] := List.getElem?_eq_getElem hlt
      have hkc := H.out.2.1 l[k] (List.getElem_mem hlt)
      obtain ⟨x, hxe⟩ : ∃ x, x = l[k] := ⟨_, rfl⟩
      rw [← hxe] at hkx hkc
      obtain ⟨xk, xi, xt⟩ := x
      obtain ⟨x0, x1, x2⟩ := hce k _ hkx
      have hbw := below_on H2.out.2.2.1 HR.out
      have y0 := (hbw.cell (World.block_lt_of_cell? _ _ x0)).trans x0
      have y1 := (hbw.cell (World.block_lt_of_cell? _ _ x1)).trans x1
      have y2 := (hbw.cell (World.block_lt_of_cell? _ _ x2)).trans x2
      dsimp only at y0 y1 y2 hkc
      have HCK := hid (fun W => check_any xk xi xt W)
      rw [hkc] at HCK
      clear hbw x0 x1 x2 hcd hce hkx hxe hkc
      go_wp2_with (first
        | (go_at_call 21
           refine (HCK.out _).mono ?_
           rintro e w3 ⟨rfl, hb3⟩
           have H3 := hid (below_on HR.out (below_on (below1 wr _) hb3))
           clear hb3))
      go_roundw
      case rel => exact ⟨k + 1, by omega, by go_num, H3⟩
      case measure => simp [intOf]; omega
    · obtain rfl : l.length = k := by omega
      have i1 : ¬ (l.length : Int) < (l.length : Int) := by omega
      have h25 := blk_of HR.out H2.out.1 (hp_lt H2.out.1)
      have h43 := blk_of HR.out H2.out.2.1 (hp_lt H2.out.2.1)
      have z1 : wr.cell? ⟨w.heap.size, 1, none⟩ = some (.int .i64 l.length) := by rw [cell_of_row _ _ _ _ _ _ h25]; rfl
      have z2 : wr.cell? ⟨w.heap.size, 2, none⟩ = some (.slice ac xs.length cc) := by rw [cell_of_row _ _ _ _ _ _ h25]; rfl
      have hzz := hp_lt h25
      have H4 := hid (And.intro h43 (And.intro (below_on H2.out.2.2.1 HR.out) (show w.heap.size + 2 ≤ wr.heap.size by have := HR.out.size; have := H2.out.2.2.2; omega)))
      clear h25 h43
      have HM := hid (H.out.2.2.1 wr ((wr.alloc (.map #[] 0)).alloc (.cells (mcs (.iface vt (.pointer (some ⟨pv, 0, none⟩))) (.slice aa l.length ca) wr.heap.size) 77)) (wr.heap.size + 1) wr.heap.size H4.out.2.1 H4.out.2.2 (my0 (two2 wr _ _) (two1 wr _ _) (Nat.le_succ _) (Nat.le_refl _)) ((below1 wr _).alloc (by simp) _))
      go_wp2_with (first
        | (go_at_call 22
           refine HM.out.mono ?_
           rintro e w3 ⟨st, at_, t1, n1, k1, t2, n2, k2, t3, n3, k3, rfl, hq, hb3⟩
           have hb3' : Below wr.heap.size wr w3 := ((below1 wr (.map #[] 0)).alloc (by simp) (.cells (mcs (.iface vt (.pointer (some ⟨pv, 0, none⟩))) (.slice aa l.length ca) wr.heap.size) 77)).trans hb3
           have h43 := blk_of hb3' H4.out.1 (hp_lt H4.out.1)
           obtain ⟨f0, f1, f2, f3, f4, f5⟩ := cells5f h43
           have hz3 := hp_lt h43
           have H5 := hid (And.intro hq (And.intro (below_on H4.out.2.1 hb3') h43))
           clear hq hb3 hb3' h43))
      refine bodyPost_ret (ret_eff2 Tryz.results7 rfl (set5 H5.out.2.2 _ _ _ _ _)) rfl ?_
      have hk9 : Kept (fun k => k = w.heap.size + 1) w3 (((((w3.setCell ⟨w.heap.size + 1, 0, none⟩ (.int .i64 st)).setCell ⟨w.heap.size + 1, 1, none⟩ (.int .i64 at_)).setCell ⟨w.heap.size + 1, 2, none⟩ (.slice t1 n1 k1)).setCell ⟨w.heap.size + 1, 3, none⟩ (.slice t2 n2 k2)).setCell ⟨w.heap.size + 1, 4, none⟩ (.slice t3 n3 k3)) := (((((Kept.refl (fun k => k = w.heap.size + 1) w3).setCell (p := ⟨w.heap.size + 1, 0, none⟩) (fun _ => rfl) _).setCell (p := ⟨w.heap.size + 1, 1, none⟩) (fun _ => rfl) _).setCell (p := ⟨w.heap.size + 1, 2, none⟩) (fun _ => rfl) _).setCell (p := ⟨w.heap.size + 1, 3, none⟩) (fun _ => rfl) _).setCell (p := ⟨w.heap.size + 1, 4, none⟩) (fun _ => rfl) _
      exact ⟨_, rfl, H.out.2.2.2 _ _ _ H5.out.1 hk9, H5.out.2.1.trans (hk9.below H5.out.2.1.size (fun k hk e => by omega))⟩
theorem vcs_one (l : List Vd) : ∀ u ∈ l.flatMap vcs, u.oneCell' = true := by
  intro u hu
  obtain ⟨x, _, hx⟩ := List.mem_flatMap.1 hu
  simp [vcs] at hx
  rcases hx with rfl | rfl | rfl <;> rfl
theorem lcs_one (l : List (ByteArray × ByteArray)) : ∀ u ∈ l.flatMap lcs, u.oneCell' = true := by
  intro u hu
  obtain ⟨x, _, hx⟩ := List.mem_flatMap.1 hu
  simp [lcs] at hx
  rcases hx with rfl | rfl <;> rfl
structure Eff (B R : Nat) (c : Mc) (v : Value) (W : World) : Prop where
  ex : ∃ t1 k1 t2 k2 t3 k3, v = .agg #[.int .i64 1, .int .i64 0, .slice t1 c.td.length k1, .slice t2 c.kv.length k2, .slice t3 c.lk.length k3] ∧ W.ownsRow B 29 3 (.slice t1 c.td.length k1) c.td.length (c.td.flatMap vcs) ∧ W.ownsRow B 45 4 (.slice t2 c.kv.length k2) c.kv.length ((dnL c.kv).flatMap ecs) ∧ W.ownsRow B 55 2 (.slice t3 c.lk.length k3) c.lk.length (c.lk.flatMap lcs) ∧
    (¬ (Value.slice t1 c.td.length k1).ownBlock = some R) ∧ (¬ (Value.slice t2 c.kv.length k2).ownBlock = some R) ∧ (¬ (Value.slice t3 c.lk.length k3).ownBlock = some R)
theorem Eff.kept {B R : Nat} {c : Mc} {v : Value} {W W' : World} (h : Eff B R c v W) (hk : Kept (fun k => k = R) W W') : Eff B R c v W' := by
  obtain ⟨t1, k1, t2, k2, t3, k3, e, h1, h2, h3, n1, n2, n3⟩ := h.ex
  exact ⟨t1, k1, t2, k2, t3, k3, e, ownsRow_kept h1 hk (fun q hq e => n1 (by rw [hq, e])), ownsRow_kept h2 hk (fun q hq e => n2 (by rw [hq, e])), ownsRow_kept h3 hk (fun q hq e => n3 (by rw [hq, e])), n1, n2, n3⟩
theorem Eff.low {B R : Nat} {c : Mc} {v : Value} {W : World} (h : Eff B R c v W) {B' R' : Nat} (hB : B' ≤ B) (hR : R' < B) : Eff B' R' c v W := by
  obtain ⟨t1, k1, t2, k2, t3, k3, e, h1, h2, h3, n1, n2, n3⟩ := h.ex
  exact ⟨t1, k1, t2, k2, t3, k3, e, owns_mono h1 hB, owns_mono h2 hB, owns_mono h3 hB, fun e => by have := (h1.lt _ e).1; omega, fun e => by have := (h2.lt _ e).1; omega, fun e => by have := (h3.lt _ e).1; omega⟩
theorem exec_ok (vt : TypeId) (pv : Nat) (av S : Value) (nm : ByteArray) (ar : Int) (xs : List Ins) (l : List Vd) (w : World) (R1 : Int) (hc : CodeAt w S xs) (ha : Va w av l) (hl : xs.length ≤ 64) (hla : l.length ≤ 1000)
    (hp : procChk nm ar xs = (R1, 0)) (hv : ∀ x ∈ l, chk x.k x.i x.t = 0) (har : ar = l.length) (st : Nat → Mc) (h0 : st 0 = mc0 (.iface vt (.pointer (some ⟨pv, 0, none⟩))) av)
    (hst : ∀ ws mb M, Below w.heap.size w ws → ∀ (k : Nat) x, xs[k]? = some x → Goes1 ws ws.heap.size mb M k x (st k) (st (k + 1)))
    (hn : (st xs.length).kv.length ≤ 1000) (hs : ∀ x ∈ (st xs.length).kv, x.1.size ≤ 1000000) (hkv : ∀ x ∈ (st xs.length).kv, ∃ d : Vd, x.2 = d.val ∧ d.t.size ≤ 1000000) :
    Calls Tryz.prog 7 #[.iface vt (.pointer (some ⟨pv, 0, none⟩)), .agg #[.string nm, .int .i64 ar, S], av] w fun e w' => ∃ v, e = .returned v ∧ Eff (w.heap.size + 2) (w.heap.size + 1) (st xs.length) v w' ∧ Below w.heap.size w w' := by
  refine run12_of vt pv av S nm ar xs l w R1 hc ha hl hla hp hv har (Eff (w.heap.size + 2) (w.heap.size + 1) (st xs.length)) ?_ (fun v W W' h hk => h.kept hk)
  intro W1 W mb M hb1 hsz hmy hbW
  refine (run_ok W1 W W1.heap.size mb M xs st S (Eff W1.heap.size (W.heap.size + 1) (st xs.length)) (by rw [h0]; exact hmy) hbW hl (fun W' hb => (hc.below hb1).below hb) (hst W1 mb M hb1) ?_ (fun v W W' h hk => h.kept hk)).mono ?_
  · intro W2 tv lv hx hrb hb2
    refine (done_any hx hn hs hkv).mono ?_
    rintro e w' ⟨a, c, rfl, ho, hb⟩
    obtain ⟨t1, k1, e1⟩ := own_shape hx.td
    obtain ⟨t3, k3, e3⟩ := own_shape hx.lk
    have o1 := ownsRow_kept hx.td (Kept.ofBelow hb) (fun _ _ e => e)
    have o3 := ownsRow_kept hx.lk (Kept.ofBelow hb) (fun _ _ e => e)
    have n1 := hx.td
    have n3 := hx.lk
    rw [e1] at o1 n1 ⊢
    rw [e3] at o3 n3 ⊢
    refine ⟨t1, _, k1, a, _, c, t3, _, k3, rfl, ⟨t1, k1, a, c, t3, k3, rfl, o1, owns_mono ho hx.bB, o3, ?_, ?_, ?_⟩, hb⟩
    · exact fun e => owns_blk n1 e hrb.e (fun cs e => by injection e with _ e; cases e)
    · exact fun e => by have h1 := (ho.lt _ e).1; have h2 := hp_lt hrb.e; omega
    · exact fun e => owns_blk n3 e hrb.e (fun cs e => by injection e with _ e; cases e)
  · rintro e w' ⟨v, rfl, hE, hb⟩
    have hE2 := hE.low (B' := w.heap.size + 2) (R' := w.heap.size + 1) hsz (by omega)
    obtain ⟨t1, k1, t2, k2, t3, k3, rfl, -⟩ := hE.ex
    exact ⟨_, _, _, _, _, _, _, _, _, _, _, rfl, hE2, hb⟩
end Go.Proofs.YthcoigbkdbkojabGreat
