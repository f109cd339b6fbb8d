import Derived.Test.YtlmompdfombgeabGreatK22
namespace Go.Proofs.YtlmompdfombgeabGreat.O
open Go.RowKit Go.MapKept

/-- A list of files that was told, its bytes in blocks of a kind. -/
def FbP (w : World) (P : Nat → Prop) (B : Nat) (v : Value) (l : List (ByteArray × List Int)) : Prop :=
  ∃ ys : List Nat, ys.length = l.length ∧ w.ownsRow B 45 2 v l.length ((l.zip ys).flatMap fun x => [.string x.1.1, .slice (some ⟨x.2, 0, none⟩) x.1.2.length x.1.2.length]) ∧ ∀ (i : Nat) (x : ByteArray × List Int) (Y : Nat), l[i]? = some x → ys[i]? = some Y → Own w Y x.2 ∧ P Y

set_option maxRecDepth 100000 in
set_option maxHeartbeats 1600000 in
theorem told_gen (P : Nat → Prop) (b c fn : Nat) (nv : List (ByteArray × Value)) (es : Array MapEntry) (lb : Array Value) (cont : Int → List Int) (w : World) (h : MG KS w b nv es c) (hs : ∀ x ∈ nv, x.1.size ≤ maxLen) (hn : nv.length ≤ 1000000) (hint : ∀ x ∈ nv, x.2 = .int .i64 (iv x.2))
    (he : ∀ args w, (callFunc fn args).run Tryz.prog w = .ok (.enter fn args) w) (hdata : ∀ x ∈ nv, ∀ w1, Below w.heap.size w w1 → Calls Tryz.prog fn (#[x.2] ++ lb) w1 fun e w2 => ∃ Y, e = .returned (.slice (some ⟨Y, 0, none⟩) (cont (iv x.2)).length (cont (iv x.2)).length) ∧ Own w2 Y (cont (iv x.2)) ∧ P Y ∧ Below w1.heap.size w1 w2) :
    Calls Tryz.prog 37 #[.map (some b), .func (.func fn) #[] lb] w fun x w' => ∃ (v : Value) (ys : List Nat), x = .returned v ∧ w'.ownsRow w.heap.size 45 2 v nv.length (((sk nv).zip ys).flatMap (tcs cont nv)) ∧ ys.length = nv.length ∧ (∀ (i : Nat) (s : List UInt8) (Y : Nat), (sk nv)[i]? = some s → ys[i]? = some Y → Own w' Y (cont (noOf nv s)) ∧ P Y) ∧ Below w.heap.size w w' := by
  obtain ⟨i0, hi, hz0, hz1, hz2⟩ := info_parts Tryz.info45
  have HM := hid h
  have HD := hid (And.intro hdata hint)
  clear h hdata hint
  go_enter Tryz.func37, Tryz.ntmps37
  go_wp2_with (
    go_at_call 62
    refine (sorted_gen HM.out hs hn).mono ?_
    rintro e w1 ⟨v, rfl, ho, hnil, hb1⟩
    obtain ⟨ao, cp, rfl⟩ := own_shape ho
    have H1 := hid (And.intro ho (And.intro hnil hb1))
    clear ho hnil hb1)
  go_loopw [5, 11] (fun l i wr => ∃ (k : Nat) (ys : List Nat) (v : Value), k ≤ nv.length ∧ i = .int .i64 k ∧ l = v ∧ Hid (wr.ownsRow w1.heap.size 45 2 v k ((((sk nv).take k).zip ys).flatMap (tcs cont nv)) ∧ ys.length = k ∧ (∀ (i : Nat) (s : List UInt8) (Y : Nat), (sk nv)[i]? = some s → ys[i]? = some Y → Own wr Y (cont (noOf nv s)) ∧ P Y) ∧ Below w1.heap.size w1 wr)) (fun _ i _ => nv.length - (intOf i).toNat)
  case atStart => exact ⟨0, [], .slice none 0 0, Nat.zero_le _, by go_num, rfl, hid ⟨owns_nil _ _ _ _, rfl, by simp, Below.refl _ _⟩⟩
  case round =>
    obtain ⟨k, ys, v, hk, rfl, rfl, HR⟩ := hrel
    obtain ⟨ho1, hnil, hb1⟩ := H1.out
    obtain ⟨hrow, hlen, hys, hbr⟩ := HR.out
    have hsl : (sk nv).length = nv.length := by simp [sk, List.length_mergeSort]
    by_cases hlt : k < nv.length
    · have hks : k < (sk nv).length := by omega
      obtain ⟨s, hse⟩ : ∃ s, s = (sk nv)[k] := ⟨_, rfl⟩
      have hsk : (sk nv)[k]? = some s := by simp [hks, hse]
      obtain ⟨g, cc, e⟩ := own_some ho1 (by omega)
      injection e with e1 e2 e3
      subst e1 e3
      clear e2
      have hc1 := ho1.cells (g := g) rfl k (encStr s) (by simp [hsk])
      rw [add_lit, Nat.zero_add] at hc1
      have hc2 : wr.cell? ⟨g, k, none⟩ = some (.string (bsOf s)) := (hbr.cell (World.block_lt_of_cell? _ _ hc1)).trans hc1
      -- the name's entry
      have hmem : s ∈ nv.map (fun x => x.1.data.toList) := by
        have : s ∈ sk nv := List.mem_of_getElem? hsk
        exact (List.mergeSort_perm _ _).mem_iff.1 this
      obtain ⟨x, hx, hxs⟩ := List.mem_map.1 hmem
      have hx1 : x.1 = bsOf s := by
        rw [← hxs]
        rfl
      have hlook : lk (bsOf s) nv = some x.2 := by
        rw [← hx1]
        exact lookup_mem HM.out.keys hx
      have hno : noOf nv s = iv x.2 := by simp [noOf, hlook]
      have hbw : Below w.heap.size w wr := hb1.trans (hbr.mono hb1.size)
      have hlk := (HM.out.below hbw).look Tryz.underlying83 (show Tryz.prog.underlying 9 = some KS.d from Tryz.underlying9) (zero3 wr) (bsOf s) false
      simp only [Bool.false_eq_true, if_false] at hlk
      rw [show @List.lookup _ _ instBEqOfDecidableEq (bsOf s) nv = some x.2 from hlook, Option.getD_some] at hlk
      replace hlk : (Instr.lookup 83 (.map (some b)) (.string (bsOf s)) false).run Tryz.prog wr = .ok x.2 wr := hlk
      have hcall := HD.out.1 x hx wr hbw
      rw [← hno] at hcall
      have hxi := HD.out.2 x hx
      rw [← hno] at hxi
      obtain ⟨n, hn'⟩ : ∃ n, n = noOf nv s := ⟨_, rfl⟩
      rw [← hn'] at hcall hxi
      rw [hxi] at hlk hcall
      have HC := hid hcall
      have i2 : (k : Int) < (nv.length : Int) := by omega
      have HX := hid (And.intro hsk (And.intro hn' (And.intro hbw hsl)))
      clear ho1 hnil hb1 hrow hlen hys hbr hsk hc1 hmem hx hxs hx1 hlook hno hbw hcall hxi hn' hse hks hsl
      go_wp2_with (first
        | (at_builtin
           refine wpList_append_lies _ rfl _ _ 38 rfl w1.heap.size 45 i0 _ 2 40 Tryz.underlying38 hi hz0 hz1 hz2 rfl (by omega) u5 k _ rfl (H2.out.1.alloc _) ⟨w2.heap.size, 0, none⟩ 1 1 [.string (bsOf s), .slice (some ⟨Y, 0, none⟩) (cont n).length (cont n).length] rfl rfl (World.news_of_block (cs := #[.string (bsOf s), .slice (some ⟨Y, 0, none⟩) (cont n).length (cont n).length]) (t := 45) (fr := (0, 0)) (heap_alloc_new w2 _)) (by simp [Value.oneCell']) (by omega) (by unfold maxLen; omega) (by omega) (by have a := HR.out.2.2.2.size; have c := H2.out.2.2.2.size; simp; omega) (w2.heap.size + 1) (by simp) ?_
           intro gg cq w3 hown hgrow hat hgl
           have HG := hid (And.intro hown hgrow)
           clear hown hgrow hat hgl)
        | (refine HC.out.mono ?_
           rintro e w2 ⟨Y, rfl, hY, hBY, hb2⟩
           have H2 := hid (And.intro (ownsRow_kept HR.out.1 (Kept.ofBelow hb2) (fun _ _ e => e)) (And.intro hY (And.intro hBY hb2)))
           clear hY hBY hb2))
      go_roundw
      case rel =>
        obtain ⟨hown, hgrow⟩ := HG.out
        obtain ⟨hrow2, hY, hBY, hb2⟩ := H2.out
        obtain ⟨hsk, hn', hbw, hsl⟩ := HX.out
        obtain ⟨hrow, hlen, hys, hbr⟩ := HR.out
        have K3 : Kept (fun k => u5.ownBlock = some k) w2 w3 := Kept.grown ((Kept.refl _ w2).alloc _) hgrow (fun k _ e => e)
        have hne : ∀ Z bs, Own w2 Z bs → u5.ownBlock ≠ some Z := fun Z bs hZ e => by
          obtain ⟨cs, h⟩ := owns_block hrow2 Z e
          unfold Own at hZ
          rw [h] at hZ
          cases hZ
        refine ⟨k + 1, ys ++ [Y], _, by omega, by go_num, rfl, hid ⟨?_, by simp [hlen], ?_, ?_⟩⟩
        · have e1 : ((sk nv).take (k + 1)).zip (ys ++ [Y]) = ((sk nv).take k).zip ys ++ [(s, Y)] := by
            have hks : k < (sk nv).length := by omega
            rw [List.take_succ_eq_append_getElem hks, List.zip_append (by simp; omega)]
            have : (sk nv)[k] = s := by simpa [hks] using hsk
            simp [this]
          rw [e1, List.flatMap_append]
          have e2 : [(s, Y)].flatMap (tcs cont nv) = [.string (bsOf s), .slice (some ⟨Y, 0, none⟩) (cont n).length (cont n).length] := by simp [tcs, ← hn']
          rw [e2]
          exact hown
        · intro i s' Z hs' hZ
          by_cases hi : i < ys.length
          · rw [List.getElem?_append_left hi] at hZ
            obtain ⟨q1, q2⟩ := hys i s' Z hs' hZ
            have q3 : Own w2 Z (cont (noOf nv s')) := hp_below q1 hb2 (hp_lt q1)
            exact ⟨hp_kept q3 K3 (hne Z _ q3), q2⟩
          · rw [List.getElem?_append_right (by omega)] at hZ
            have hik : i = k := by
              rcases Nat.lt_or_ge (i - ys.length) 1 with h | h
              · omega
              · rw [List.getElem?_eq_none (by simpa using h)] at hZ; cases hZ
            subst hik
            simp [hlen] at hZ
            subst hZ
            rw [hsk] at hs'
            injection hs' with hs'
            subst hs'
            rw [← hn']
            exact ⟨hp_kept hY K3 (hne _ _ hY), hBY⟩
        · have hz := H1.out.2.2.size
          have hz2 := hbr.size
          exact (hbr.trans (hb2.mono hz2)).trans (K3.below (by have := hb2.size; omega) (fun q hq e => by
            have := (hrow.lt _ e).1
            omega))
      case measure => simp [intOf]; omega
    · have hke : k = nv.length := by omega
      subst hke
      have HF := hid (And.intro hrow (And.intro hlen (And.intro hys (And.intro hbr (And.intro hb1 hsl)))))
      have i2 : ¬ (nv.length : Int) < (nv.length : Int) := by omega
      clear hrow hlen hys hbr ho1 hnil hb1 hsl
      go_wp2
      go_ret
      obtain ⟨hrow, hlen, hys, hbr, hb1, hsl⟩ := HF.out
      refine ⟨u5, rfl, ys, ?_, hlen, hys, hb1.trans (hbr.mono hb1.size)⟩
      rw [List.take_of_length_le (by omega)] at hrow
      exact ownsRow_base_a hrow hb1.size

/-- What told tells, over any names. -/
theorem told_dkP (P : Nat → Prop) (b c fn : Nat) (nv : List (ByteArray × Value)) (es : Array MapEntry) (lb : Array Value) (l : List (ByteArray × Int)) (cont : Int → List Int) (w : World) (h : MG KS w b nv es c) (hp : nv.Perm (encN l)) (hok : ∀ x ∈ l, nmOK x.1 = true) (hn : l.length ≤ 1000000)
    (he : ∀ args w, (callFunc fn args).run Tryz.prog w = .ok (.enter fn args) w) (hdata : ∀ x ∈ l, ∀ w1, Below w.heap.size w w1 → Calls Tryz.prog fn (#[.int .i64 x.2] ++ lb) w1 fun e w2 => ∃ Y, e = .returned (.slice (some ⟨Y, 0, none⟩) (cont x.2).length (cont x.2).length) ∧ Own w2 Y (cont x.2) ∧ P Y ∧ Below w1.heap.size w1 w2) :
    Calls Tryz.prog 37 #[.map (some b), .func (.func fn) #[] lb] w fun x w' => ∃ v, x = .returned v ∧ FbP w' P w.heap.size v (toldN l cont) ∧ Below w.heap.size w w' := by
  have hmem : ∀ x ∈ nv, ∃ y ∈ l, x = (y.1, Value.int .i64 y.2) := fun x hx => by
    obtain ⟨y, hy, e⟩ := List.mem_map.1 (hp.mem_iff.1 hx)
    exact ⟨y, hy, e.symm⟩
  have hlen : nv.length = l.length := by rw [hp.length_eq]; simp [encN]
  refine (told_gen P b c fn nv es lb cont w h (fun x hx => ?_) (by omega) (fun x hx => ?_) he (fun x hx => ?_)).mono ?_
  · obtain ⟨y, hy, rfl⟩ := hmem x hx
    have := nm_size (hok y hy)
    unfold maxLen
    dsimp only
    omega
  · obtain ⟨y, hy, rfl⟩ := hmem x hx
    rfl
  · obtain ⟨y, hy, rfl⟩ := hmem x hx
    exact hdata y hy
  · rintro x w' ⟨v, ys, rfl, hrow, hl, hys, hb⟩
    have hsk : sk nv = sk (encN l) := sk_perm hp
    have e1 : (toldN l cont).length = nv.length := by simp [toldN, skN, ← hsk, sk_len]
    have e2 : ∀ ys : List Nat, ((toldN l cont).zip ys).flatMap (fun x => [Value.string x.1.1, .slice (some ⟨x.2, 0, none⟩) x.1.2.length x.1.2.length]) = ((sk nv).zip ys).flatMap (tcs cont nv) := by
      intro ys
      unfold toldN skN
      rw [← hsk, List.map_map, List.zip_map_left, List.flatMap_map]
      congr 1
      funext x
      simp only [tcs, Prod.map, Function.comp, noOf_perm hp h.keys, id]
    refine ⟨v, rfl, ⟨ys, by rw [e1]; exact hl, ?_, ?_⟩, hb⟩
    · rw [e1, e2]
      exact hrow
    · intro i x Y hx hY
      unfold toldN skN at hx
      rw [← hsk, List.map_map, List.getElem?_map] at hx
      cases hs : (sk nv)[i]? with
      | none => rw [hs] at hx; cases hx
      | some s =>
        rw [hs] at hx
        injection hx with hx
        subst hx
        have := hys i s Y hs hY
        rw [noOf_perm hp h.keys] at this
        exact this

section
variable {w : World} {d : Nat} {t : Wt} {D : Dq} {n : Nat}

/-- What is done behind k files. -/
structure CrI (w wr : World) (d : Nat) (t : Wt) (D : Dq) (pks : List (Int × List Int)) (k M : Nat) (ft' : Int → Nat → Prop) (kv : List (Int × Value)) (es : Array MapEntry) (c : Nat) : Prop where
  g : Goes d w t D wr { t with ft := ft' } (crashD pks k D)
  m : MG KI wr M kv es c
  keys : kv.map Prod.fst = (D.files.take k).map Fi.no
  row : ∀ i f, i < k → D.files[i]? = some f → ∃ Y, lo f.no kv = some (.slice (some ⟨Y, 0, none⟩) (wholeF (pkAt pks i).1 f).1.length (wholeF (pkAt pks i).1 f).1.length) ∧ Own wr Y (wholeF (pkAt pks i).1 f).1 ∧ w.heap.size ≤ Y ∧ ¬ Dft d { t with ft := ft' } (crashD pks k D) Y

theorem crI_zero (h : DkT w d t D) {wr : World} (hb : Below w.heap.size w wr) {M : Nat} (hM : wr.heap[M]? = some (.map #[] 0)) (pks : List (Int × List Int)) : CrI w wr d t D pks 0 M t.ft [] #[] 0 := by
  refine ⟨?_, ⟨hM, by simp, by simp, rfl, by simp⟩, rfl, fun i f hi => by omega⟩
  have e : crashD pks 0 D = D := by
    unfold crashD
    rw [crashTo_zero]
  rw [e]
  exact Goes.still h hb

theorem CrI.step {wr w2 : World} {pks : List (Int × List Int)} {k M X : Nat} {ft' : Int → Nat → Prop} {kv : List (Int × Value)} {es : Array MapEntry} {c : Nat} (hI : CrI w wr d t D pks k M ft' kv es c) (h : DkT w d t D) (hW : WD n D) {f : Fi} (hf : D.files[k]? = some f) (hMl : w.heap.size ≤ M) {ftf : Nat → Prop}
    {wa : World} (hwa : Below wr.heap.size wr wa) (hX : wa.heap.size ≤ X) (hO : Own w2 X (wholeF (pkAt pks k).1 f).1) (hF : Fil w2 ftf (t.pt f.no) (crashF (pkAt pks k) f)) (hft : ∀ j, ftf j → j = t.pt f.no ∨ (wa.heap.size ≤ j ∧ j ≠ X)) (hk : Kept (fun j => j = t.pt f.no) wa w2) :
    (∃ es' c', (Instr.mapUpdate 99 (.map (some M)) (.int .i64 f.no) (.slice (some ⟨X, 0, none⟩) (wholeF (pkAt pks k).1 f).1.length (wholeF (pkAt pks k).1 f).1.length)).run Tryz.prog w2 = .ok () (puts w2 M (.map es' c')) ∧
      CrI w (puts w2 M (.map es' c')) d t D pks (k + 1) M (fun m => if m = f.no then ftf else ft' m) (kv ++ [(f.no, .slice (some ⟨X, 0, none⟩) (wholeF (pkAt pks k).1 f).1.length (wholeF (pkAt pks k).1 f).1.length)]) es' c' ∧ Kept (fun j => j = t.pt f.no ∨ j = M) wr (puts w2 M (.map es' c'))) := by
  have hD := hI.g.dk
  have hfm : f ∈ (crashD pks k D).files := List.mem_of_getElem? (crashTo_get pks k D.files k f hf (Nat.le_refl _))
  have hkr : Kept (fun j => j = t.pt f.no) wr w2 := ((Kept.ofBelow hwa).mono (fun _ _ e => e.elim)).trans hk (fun _ _ e => e)
  have hself : ft' f.no (t.pt f.no) := (hD.fil f hfm).self
  have hG1 := hD.change (f' := crashF (pkAt pks k) f) hfm rfl (hkr.mono (fun j _ e => by rw [e]; exact hself)) hF (fun j e => by
    rcases hft j e with e | ⟨e, _⟩
    · exact .inl (by rw [e]; exact hself)
    · exact .inr (Nat.le_trans hwa.size e))
  have eD : ({ crashD pks k D with files := setF (crashF (pkAt pks k) f) (crashD pks k D).files } : Dq) = crashD pks (k + 1) D := by
    unfold crashD
    rw [crashTo_step pks k D.files f hf hW.nd]
  rw [eD] at hG1
  have pL : M ≠ t.L := by have := hp_lt h.hL.blk; omega
  have pN : M ≠ t.N := by have := hp_lt h.hN.blk; omega
  have pF : M ≠ t.F := by have := hp_lt h.hF.blk; omega
  have pk : ∀ b, t.k1 = .map (some b) ∨ t.k2 = .map (some b) → b ≠ M := fun b e => by
    have : b < w.heap.size := by
      rcases e with e | e
      · exact h.lt b (.inr (.inr (.inr (.inr (.inr (.inl e))))))
      · exact h.lt b (.inr (.inr (.inr (.inr (.inr (.inr (.inl e)))))))
    omega
  have hpw : t.pt f.no < w.heap.size := by
    have hf0 : f ∈ D.files := List.mem_of_getElem? hf
    exact h.lt _ (.inr (.inr (.inr (.inr (.inr (.inr (.inr ⟨f, hf0, (h.fil f hf0).self⟩)))))))
  have hM2 : MG KI w2 M kv es c := hI.m.kept hkr (by omega)
  have hno : lo f.no kv = none := by
    rw [lo_none]
    intro x hx e
    have h1 : f.no ∈ kv.map Prod.fst := List.mem_map.2 ⟨x, hx, e⟩
    rw [hI.keys] at h1
    have h2 := hW.nd
    have h3 : D.files.map Fi.no = (D.files.take k).map Fi.no ++ (D.files.drop k).map Fi.no := by rw [← List.map_append, List.take_append_drop]
    rw [h3, List.nodup_append] at h2
    refine h2.2.2 _ h1 f.no (List.mem_map.2 ⟨f, ?_, rfl⟩) rfl
    refine List.mem_iff_getElem?.2 ⟨0, ?_⟩
    rw [List.getElem?_drop]
    exact hf
  have hu := upd_new (w := w2) Tryz.underlying99 Tryz.underlying3 hM2.blk (key_int f.no) (.slice (some ⟨X, 0, none⟩) (wholeF (pkAt pks k).1 f).1.length (wholeF (pkAt pks k).1 f).1.length) ((hM2.findn f.no).1 hno)
  have hK3 : Kept (fun j => j = M) w2 (puts w2 M (.map (es.push { key := .int .i64 f.no, val := .slice (some ⟨X, 0, none⟩) (wholeF (pkAt pks k).1 f).1.length (wholeF (pkAt pks k).1 f).1.length, born := c }) (c + 1))) := (Kept.refl (fun j => j = M) w2).puts (fun _ => rfl) _
  have hnew : ∀ q, Dft d { t with ft := fun m => if m = f.no then ftf else ft' m } (crashD pks (k + 1) D) q → Dft d { t with ft := ft' } (crashD pks k D) q ∨ (q = t.pt f.no ∧ True) ∨ (wa.heap.size ≤ q ∧ q ≠ X) := by
    rintro q (e | e | e | e | e | e | e | ⟨g, hg, e⟩)
    · exact .inl (.inl e)
    · exact .inl (.inr (.inl e))
    · exact .inl (.inr (.inr (.inl e)))
    · exact .inl (.inr (.inr (.inr (.inl e))))
    · exact .inl (.inr (.inr (.inr (.inr (.inl e)))))
    · exact .inl (.inr (.inr (.inr (.inr (.inr (.inl e))))))
    · exact .inl (.inr (.inr (.inr (.inr (.inr (.inr (.inl e)))))))
    · dsimp only at e
      by_cases en : g.no = f.no
      · rw [if_pos en] at e
        rcases hft q e with e | e
        · exact .inr (.inl ⟨e, trivial⟩)
        · exact .inr (.inr e)
      · rw [if_neg en] at e
        have hg2 : g.no ∈ (crashTo pks (k + 1) D.files).map Fi.no := List.mem_map.2 ⟨g, hg, rfl⟩
        rw [crashTo_no, ← crashTo_no pks k] at hg2
        obtain ⟨g2, h2, e2⟩ := List.mem_map.1 hg2
        exact .inl (.inr (.inr (.inr (.inr (.inr (.inr (.inr ⟨g2, h2, by rw [e2]; exact e⟩)))))))
  have hold : ∀ q, q < wr.heap.size → ¬ q = t.pt f.no → ¬ Dft d { t with ft := ft' } (crashD pks k D) q → ¬ Dft d { t with ft := fun m => if m = f.no then ftf else ft' m } (crashD pks (k + 1) D) q := fun q h1 h2 h3 e => by
    rcases hnew q e with e | ⟨e, _⟩ | ⟨e, _⟩
    · exact h3 e
    · exact h2 e
    · have := hwa.size
      omega
  refine ⟨_, _, hu, ⟨?_, ?_, ?_, ?_⟩, ?_⟩
  · have hnM : ¬ Dft d _ (crashD pks (k + 1) D) M := hG1.dk.notMap hM2.blk pL pN pF pk
    have hG2 := hI.g.trans hG1
    refine ⟨hG2.dk.kept hK3 (fun j e e2 => hnM (by rw [← e2]; exact e)), hG2.kp.trans hK3 (fun i hi e => by omega), hG2.ft⟩
  · exact hM2.push f.no _ (by rw [lo_lookup]; exact hno) (puts_same hM2.blk)
  · rw [List.map_append, hI.keys, List.take_add_one, hf, List.map_append]
    rfl
  · intro i g hi hg
    by_cases hik : i < k
    · obtain ⟨Y, y1, y2, y3, y4⟩ := hI.row i g hik hg
      have hYp : Y ≠ t.pt f.no := fun e => by omega
      have hYM : Y ≠ M := fun e => by rw [e] at y2; exact hp_ne y2 hI.m.blk (by simp) rfl
      exact ⟨Y, lo_append_some _ y1, hp_kept (hp_kept y2 hkr hYp) hK3 hYM, y3, fun e => hold Y (hp_lt y2) (fun e => by omega) y4 e⟩
    · have : i = k := by omega
      subst this
      rw [hf] at hg
      injection hg with hg
      subst hg
      have hYM : X ≠ M := fun e => by rw [e] at hO; exact hp_ne hO hM2.blk (by simp) rfl
      have := hI.g.kp.size
      have := hwa.size
      refine ⟨X, lo_append_new hno, hp_kept hO hK3 hYM, by omega, fun e => ?_⟩
      rcases hnew X e with e | ⟨e, _⟩ | ⟨_, e⟩
      · have := hD.lt X e
        omega
      · omega
      · exact e rfl
  · exact (hkr.mono (fun _ _ e => .inl e)).trans hK3 (fun _ _ e => .inr e)


set_option maxRecDepth 100000 in
set_option maxHeartbeats 12800000 in
theorem crash_own (h : DkT w d t D) (hW : WD n D) (hn : n ≤ 100000) (pn : Int) (hpn : I64 pn) (fv : Value) (pk : List Pk) (hpk : Pks w fv pk) (hl : pk.length ≤ 1000) (hll : ∀ p ∈ pk, p.lost.length ≤ 1000) (hsep : ∀ k, pkBlk fv pk k → ¬ Dft d t D k) :
    Calls Tryz.prog 12 #[.pointer (some ⟨d, 0, none⟩), .agg #[.int .i64 pn, fv]] w fun x w' => ∃ v t', x = .returned v ∧ (∃ B, w.heap.size ≤ B ∧ FbP w' (fun Y => w.heap.size ≤ Y ∧ ¬ Dft d t' (crashP pn (pksOf pk) D).2 Y) B v (crashP pn (pksOf pk) D).1) ∧ Goes d w t D w' t' (crashP pn (pksOf pk) D).2 := by
  obtain ⟨c0, c1, c2, c3, c4, c5, c6, c7, c8, c9, c10, c11⟩ := h.disk.cells
  have hdl := hp_lt h.disk
  have hmm := @run_makeMap Tryz.prog
  have hmf : ∀ (fn : Fn) (first cap : Array Value) (w : World), (Instr.makeFunc fn first cap).run Tryz.prog w = .ok (.func fn first cap) w := fun _ _ _ _ => rfl
  obtain ⟨ap, cp, hfv, hc1, hc2⟩ := hpk.1.shape
  subst hfv
  obtain ⟨m, hm⟩ : ∃ m, m = D.files.length := ⟨_, rfl⟩
  have h3 := hW.cnt
  have h4 := hW.lim
  have hm1 : m ≤ 512 := by omega
  have hb0 : Below w.heap.size w (((w.alloc (.cells #[.int .i64 pn, .slice ap pk.length cp] 25)).alloc (.map #[] 0)).alloc (.cells #[.map (some (w.heap.size + 1))] 99)) := (((Below.refl _ _).alloc (Nat.le_refl _) _).alloc (by simp) _).alloc (by simp; omega) _
  have hsz0 : (((w.alloc (.cells #[.int .i64 pn, .slice ap pk.length cp] 25)).alloc (.map #[] 0)).alloc (.cells #[.map (some (w.heap.size + 1))] 99)).heap.size = w.heap.size + 3 := by simp
  have hx0 : (((w.alloc (.cells #[.int .i64 pn, .slice ap pk.length cp] 25)).alloc (.map #[] 0)).alloc (.cells #[.map (some (w.heap.size + 1))] 99)).heap[w.heap.size]? = some (.cells #[.int .i64 pn, .slice ap pk.length cp] 25 (0, 0)) := hp_alloc (hp_alloc (hp_new _ _) _) _
  have hM0 : (((w.alloc (.cells #[.int .i64 pn, .slice ap pk.length cp] 25)).alloc (.map #[] 0)).alloc (.cells #[.map (some (w.heap.size + 1))] 99)).heap[w.heap.size + 1]? = some (.map #[] 0) := by
    have := hp_alloc (hp_new (w.alloc (.cells #[.int .i64 pn, .slice ap pk.length cp] 25)) (.map #[] 0)) (.cells #[.map (some (w.heap.size + 1))] 99)
    simpa using this
  have hw0 : (((w.alloc (.cells #[.int .i64 pn, .slice ap pk.length cp] 25)).alloc (.map #[] 0)).alloc (.cells #[.map (some (w.heap.size + 1))] 99)).heap[w.heap.size + 2]? = some (.cells #[.map (some (w.heap.size + 1))] 99 (0, 0)) := by
    have := hp_new ((w.alloc (.cells #[.int .i64 pn, .slice ap pk.length cp] 25)).alloc (.map #[] 0)) (.cells #[.map (some (w.heap.size + 1))] 99)
    simpa using this
  have hkl : t.kl.length = m := by rw [hm, h.pl.length_eq]; simp [encL]
  have hmk := making_gen ((hb0.cell hdl).trans c2) (h.hL.below hb0) (hW.nowf (by omega) h) (by omega)
  rw [si_files h hW, hkl] at hmk
  obtain ⟨W0, hW0⟩ : ∃ W0, W0 = (((w.alloc (.cells #[.int .i64 pn, .slice ap pk.length cp] 25)).alloc (.map #[] 0)).alloc (.cells #[.map (some (w.heap.size + 1))] 99)) := ⟨_, rfl⟩
  have hQ := hmk
  rw [← hW0] at hb0 hsz0 hx0 hM0 hw0
  have HW0 := hid hW0
  have HI := hid (And.intro hb0 (And.intro hsz0 (And.intro hx0 (And.intro hM0 hw0))))
  have HC := hid hQ
  have H := hid (And.intro h hW)
  have HPK := hid (And.intro hpk (And.intro hll hsep))
  have HM := hid hm
  clear hb0 hsz0 hx0 hM0 hw0 hW0 hmk hQ hkl h3 h4 h hW hpk hll hsep hm c0 c1 c2 c3 c4 c5 c6 c7 c8 c9 c10 c11
  go_enter Tryz.func12, Tryz.ntmps12
  go_wp2_with (
    go_at_call 40
    refine HC.out.mono ?_
    rintro e w1 ⟨v, rfl, ho, hnil, hb1⟩
    rw [← HW0.out] at ho hb1
    obtain ⟨ao, cap, rfl⟩ := own_shape ho
    have HB1 := hid (And.intro ho hb1)
    clear ho hnil hb1)
  obtain ⟨hb0, hsz0, hx0, hM0, hw0⟩ := HI.out
  obtain ⟨ho1, hb1⟩ := HB1.out
  have hbw1 : Below w.heap.size w w1 := hb0.trans (hb1.mono (by omega))
  have hz1 := hb1.size
  have hx1 := hp_below hx0 hb1 (by omega)
  have hM1 := hp_below hM0 hb1 (by omega)
  have hw1 := hp_below hw0 hb1 (by omega)
  have HJ := hid (And.intro hbw1 (And.intro hx1 (And.intro hM1 (And.intro hw1 (And.intro ho1 (And.intro hz1 hsz0))))))
  clear hb0 hsz0 hx0 hM0 hw0 ho1 hb1 hbw1 hz1 hx1 hM1 hw1 HI HB1 HC HW0
  go_loopw [18] (fun i wr => ∃ (k : Nat) (ft' : Int → Nat → Prop) (kv : List (Int × Value)) (es : Array MapEntry) (c : Nat), k ≤ m ∧ i = .int .i64 k ∧ Hid (CrI w wr d t D (pksOf pk) k (w.heap.size + 1) ft' kv es c ∧ Kept (fun j => Dft d t D j ∨ j = w.heap.size + 1) w1 wr)) (fun i _ => m - (intOf i).toNat)
  case atStart =>
    obtain ⟨hbw1, hx1, hM1, hw1, ho1, hz1, hsz0⟩ := HJ.out
    exact ⟨0, t.ft, [], #[], 0, Nat.zero_le _, by go_num, hid ⟨crI_zero H.out.1 hbw1 hM1 _, Kept.refl _ _⟩⟩
  case round =>
    obtain ⟨k, ft', kv, es, c, hk, rfl, HR⟩ := hrel
    obtain ⟨hbw1, hx1, hM1, hw1, ho1, hz1, hsz0⟩ := HJ.out
    obtain ⟨hI, hkp⟩ := HR.out
    have hnd : ∀ j, Dft d t D j → j < w.heap.size := fun j e => H.out.1.lt j e
    have hxr := hp_kept hx1 hkp (by rintro (e | e); have := hnd _ e; omega; omega)
    have hwr := hp_kept hw1 hkp (by rintro (e | e); have := hnd _ e; omega; omega)
    obtain ⟨q0, q1⟩ := cells2 hxr
    have q2 : wr.cell? ⟨w.heap.size + 2, 0, none⟩ = some (.map (some (w.heap.size + 1))) := by rw [cell_of_row wr _ 0 _ _ _ hwr]; rfl
    obtain ⟨-, -, e2, -, -, e5, e6, -⟩ := hI.g.dk.disk.cells
    have hdr := hp_lt hI.g.dk.disk
    have hwrl := hp_lt hwr
    have r4 : w.heap.size < wr.heap.size := by omega
    by_cases hlt : k < m
    · have i2 : (k : Int) < (m : Int) := by omega
      have hkf : k < D.files.length := by rw [← HM.out]; exact hlt
      obtain ⟨f, hfe⟩ : ∃ f, f = D.files[k] := ⟨_, rfl⟩
      have hf : D.files[k]? = some f := by rw [hfe]; exact List.getElem?_eq_getElem hkf
      obtain ⟨g, cc, e⟩ := own_some ho1 (by omega)
      injection e with e1 e2' e3
      subst e1 e3
      clear e2'
      have hc1 := ho1.cells (g := g) rfl k (encZ f.no) (by simp [hkf, hfe])
      rw [add_lit, Nat.zero_add] at hc1
      have hgl := (ho1.lt g rfl).1
      have hcn : wr.cell? ⟨g, k, none⟩ = some (.int .i64 f.no) := hkp.cell hc1 (by rintro (e | e); have := hnd _ e; dsimp only at this; omega; dsimp only at e; omega)
      have hfm : f ∈ (crashD (pksOf pk) k D).files := List.mem_of_getElem? (crashTo_get (pksOf pk) k D.files k f hf (Nat.le_refl _))
      have hWk := H.out.2.crashD (pksOf pk) k
      have hf0 : f ∈ D.files := List.mem_of_getElem? hf
      have hpkf := H.out.2.peak hf0
      have hcsf := H.out.2.chg f hf0
      -- what is picked
      have hpick : ∃ (dn : Int) (al : Option Addr) (cl : Nat) (lost : List Int), I64 dn ∧ Ln wr (.slice al lost.length cl) lost ∧ (∀ x ∈ lost, I64 x) ∧ lost.length ≤ 1000 ∧ pkAt (pksOf pk) k = (dn, lost) ∧ ((k < pk.length ∧ ∃ b off, ap = some ⟨b, off, none⟩ ∧ wr.cell? ⟨b, off + k * 2, none⟩ = some (.int .i64 dn) ∧ wr.cell? ⟨b, off + k * 2 + 1, none⟩ = some (.slice al lost.length cl)) ∨ (¬ k < pk.length ∧ dn = 0 ∧ lost = [] ∧ al = none ∧ cl = 0)) := by
        obtain ⟨hpk, hll, hsep⟩ := HPK.out
        by_cases hkp2 : k < pk.length
        · have hmem : pk[k] ∈ pk := List.getElem_mem hkp2
          obtain ⟨o1, o2, o3, o4⟩ := hpk.2 _ hmem
          obtain ⟨al, cl, hlv, _, _⟩ := o2.shape
          have hrow := Rf.keptE hpk.1 hI.g.kp (fun h0 j e => hsep j (.inl ⟨h0, e⟩))
          obtain ⟨b, off, cap9, e9, _, _, hcl⟩ := hrow.lits (by omega) (by omega)
          injection e9 with e9 _ e10
          obtain ⟨r1, r2⟩ := pcs_get pk k pk[k] (List.getElem?_eq_getElem hkp2)
          refine ⟨pk[k].done, al, cl, pk[k].lost, o1, ?_, o3, hll _ hmem, pkAt_some pk k hkp2, .inl ⟨hkp2, b, off, e9, hcl _ _ r1, ?_⟩⟩
          · rw [← hlv]
            exact Rf.keptE o2 hI.g.kp (fun h0 j e => hsep j (.inr ⟨_, hmem, h0, e⟩))
          · rw [← hlv]
            have := hcl _ _ r2
            rw [← Nat.add_assoc] at this
            exact this
        · exact ⟨0, none, 0, [], ⟨by omega, by omega⟩, rf_nil _ _, by simp, by simp, pkAt_none pk k hkp2, .inr ⟨hkp2, rfl, rfl, rfl, rfl⟩⟩
      obtain ⟨dn, al, cl, lost, p1, p2, p3, p4, p5, p6⟩ := hpick
      have hwa : Below wr.heap.size wr (wr.alloc (.cells #[.int .i64 dn, .slice al lost.length cl] 77)).drew := ((Below.refl _ wr).alloc (Nat.le_refl _) _).drew
      have hDa := hI.g.dk.below hwa
      have hlk : (Instr.lookup 82 (.map (some t.L)) (.int .i64 f.no) false).run Tryz.prog (wr.alloc (.cells #[.int .i64 dn, .slice al lost.length cl] 77)).drew = .ok (.pointer (some ⟨t.pt f.no, 0, none⟩)) (wr.alloc (.cells #[.int .i64 dn, .slice al lost.length cl] 77)).drew := hDa.lookL hWk hfm 0
      have hcall := crash_fil (hDa.fil f hfm) hcsf.2 dn p1 (.slice al lost.length cl) lost (Rf.below p2 hwa) p3 (by omega) (by omega) (by omega)
      have hpd : Dft d t D (t.pt f.no) := .inr (.inr (.inr (.inr (.inr (.inr (.inr ⟨f, hf0, (H.out.1.fil f hf0).self⟩))))))
      have hpt := hnd _ hpd
      have hdp : d ≠ t.pt f.no := fun e => H.out.1.apart.2.2.2.2.2.2 f hf0 (by rw [e]; exact (H.out.1.fil f hf0).self)
      have hstep : ∀ (w2 : World) (X : Nat) (ftf : Nat → Prop), (wr.alloc (.cells #[.int .i64 dn, .slice al lost.length cl] 77)).drew.heap.size ≤ X → Own w2 X (wholeF dn f).1 → Fil w2 ftf (t.pt f.no) (crashF (dn, lost) f) → (∀ j, ftf j → j = t.pt f.no ∨ ((wr.alloc (.cells #[.int .i64 dn, .slice al lost.length cl] 77)).drew.heap.size ≤ j ∧ j ≠ X)) → Kept (fun j => j = t.pt f.no) (wr.alloc (.cells #[.int .i64 dn, .slice al lost.length cl] 77)).drew w2 →
          (∃ es' c', (Instr.mapUpdate 99 (.map (some (w.heap.size + 1))) (.int .i64 f.no) (.slice (some ⟨X, 0, none⟩) (wholeF dn f).1.length (wholeF dn f).1.length)).run Tryz.prog w2 = .ok () (puts w2 (w.heap.size + 1) (.map es' c')) ∧
            CrI w (puts w2 (w.heap.size + 1) (.map es' c')) d t D (pksOf pk) (k + 1) (w.heap.size + 1) (fun m => if m = f.no then ftf else ft' m) (kv ++ [(f.no, .slice (some ⟨X, 0, none⟩) (wholeF dn f).1.length (wholeF dn f).1.length)]) es' c' ∧ Kept (fun j => j = t.pt f.no ∨ j = w.heap.size + 1) wr (puts w2 (w.heap.size + 1) (.map es' c'))) := by
        intro w2 X ftf a1 a2 a3 a4 a5
        have := hI.step H.out.1 H.out.2 hf (Nat.le_succ _) hwa a1 (by rw [p5]; exact a2) (by rw [p5]; exact a3) a4 a5
        simp only [p5] at this
        exact this
      have HStep := hid hstep
      have HCall := hid hcall
      have HKP := hid hkp
      clear hstep hcall hkp hI HR hDa p1 p2 p3 p5 ho1 hx1 hM1 hw1 hbw1 hxr hwr hcsf hWk hfe hf hc1 e5 e6 hfm hf0 hkf
      rcases p6 with ⟨p6, b, off, p7, g1, g2⟩ | ⟨p6, p7, p8, p9, p10⟩
      · subst p7
        have r5 : b < wr.heap.size := World.block_lt_of_cell? _ _ g1
        have i5 := (show (k : Int) < (pk.length : Int) by omega)
        go_wp2_with fail
        go_region_held (fun w' => w'.cell? ⟨w.heap.size + 2, 0, none⟩ = some (.map (some (w.heap.size + 1))) ∧ w'.cell? ⟨d, 2, none⟩ = some (.map (some t.L)) ∧ w'.cell? ⟨wr.heap.size, 0, none⟩ = some (.int .i64 dn) ∧ w'.cell? ⟨wr.heap.size, 1, none⟩ = some (.slice al lost.length cl)) (go_keep) ((
          go_at_call 41
          refine HCall.out.mono ?_
          rintro e w2 ⟨X, ftf, rfl, hX, hO, hF, hft, hk2⟩
          obtain ⟨es', c', hu, hI', hkk⟩ := HStep.out w2 X ftf hX hO hF hft hk2
          have y1 : w2.cell? ⟨w.heap.size + 2, 0, none⟩ = some (.map (some (w.heap.size + 1))) := hk2.cell ((hwa.cell (World.block_lt_of_cell? _ _ q2)).trans q2) (by simp; omega)
          have y2 : w2.cell? ⟨d, 2, none⟩ = some (.map (some t.L)) := hk2.cell ((hwa.cell (World.block_lt_of_cell? _ _ e2)).trans e2) (by simp; exact hdp)
          have y3 : w2.cell? ⟨wr.heap.size, 0, none⟩ = some (.int .i64 dn) := hk2.cell (by simp [go_sem]) (by simp; omega)
          have y4 : w2.cell? ⟨wr.heap.size, 1, none⟩ = some (.slice al lost.length cl) := hk2.cell (by simp [go_sem]) (by simp; omega)
          have kz : Kept (fun j => j = w.heap.size + 1) w2 (puts w2 (w.heap.size + 1) (.map es' c')) := (Kept.refl (fun j => j = w.heap.size + 1) w2).puts (fun _ => rfl) _
          have z1 := kz.cell y1 (by simp)
          have z2 := kz.cell y2 (by simp; omega)
          have z3 := kz.cell y3 (by simp; omega)
          have z4 := kz.cell y4 (by simp; omega)
          have HX := hid (And.intro hI' hkk)
          clear hX hO hF hft hk2 hI' hkk kz))
        go_wp2
        go_roundw
        case rel =>
          obtain ⟨hI', hkk⟩ := HX.out
          exact ⟨k + 1, _, _, es', c', by omega, by go_num, hid ⟨hI', HKP.out.trans hkk (fun i hi e => by
            rcases e with e | e
            · exact .inl (by rw [e]; exact hpd)
            · exact .inr e)⟩⟩
        case measure => simp [intOf]; omega
      · subst p7 p8 p9 p10
        simp only [List.length_nil] at hlk hwa
        have i5 := (show ¬ (k : Int) < (pk.length : Int) by omega)
        go_wp2_with fail
        go_region_held (fun w' => w'.cell? ⟨w.heap.size + 2, 0, none⟩ = some (.map (some (w.heap.size + 1))) ∧ w'.cell? ⟨d, 2, none⟩ = some (.map (some t.L)) ∧ w'.cell? ⟨wr.heap.size, 0, none⟩ = some (.int .i64 0) ∧ w'.cell? ⟨wr.heap.size, 1, none⟩ = some (.slice none 0 0)) (go_keep) ((
          go_at_call 41
          refine HCall.out.mono ?_
          rintro e w2 ⟨X, ftf, rfl, hX, hO, hF, hft, hk2⟩
          obtain ⟨es', c', hu, hI', hkk⟩ := HStep.out w2 X ftf hX hO hF hft hk2
          have y1 : w2.cell? ⟨w.heap.size + 2, 0, none⟩ = some (.map (some (w.heap.size + 1))) := hk2.cell ((hwa.cell (World.block_lt_of_cell? _ _ q2)).trans q2) (by simp; omega)
          have y2 : w2.cell? ⟨d, 2, none⟩ = some (.map (some t.L)) := hk2.cell ((hwa.cell (World.block_lt_of_cell? _ _ e2)).trans e2) (by simp; exact hdp)
          have y3 : w2.cell? ⟨wr.heap.size, 0, none⟩ = some (.int .i64 0) := hk2.cell (by simp [go_sem]) (by simp; omega)
          have y4 : w2.cell? ⟨wr.heap.size, 1, none⟩ = some (.slice none 0 0) := hk2.cell (by simp [go_sem]) (by simp; omega)
          have kz : Kept (fun j => j = w.heap.size + 1) w2 (puts w2 (w.heap.size + 1) (.map es' c')) := (Kept.refl (fun j => j = w.heap.size + 1) w2).puts (fun _ => rfl) _
          have z1 := kz.cell y1 (by simp)
          have z2 := kz.cell y2 (by simp; omega)
          have z3 := kz.cell y3 (by simp; omega)
          have z4 := kz.cell y4 (by simp; omega)
          have HX := hid (And.intro hI' hkk)
          clear hX hO hF hft hk2 hI' hkk kz))
        go_wp2
        go_roundw
        case rel =>
          obtain ⟨hI', hkk⟩ := HX.out
          exact ⟨k + 1, _, _, es', c', by omega, by go_num, hid ⟨hI', HKP.out.trans hkk (fun i hi e => by
            rcases e with e | e
            · exact .inl (by rw [e]; exact hpd)
            · exact .inr e)⟩⟩
        case measure => simp [intOf]; omega
    · have i3 : ¬ ((k : Int) < (m : Int)) := by omega
      have ek : k = m := by omega
      subst ek
      obtain ⟨Dm, hDm⟩ : ∃ Dm, Dm = crashD (pksOf pk) k D := ⟨_, rfl⟩
      obtain ⟨tm, htm⟩ : ∃ tm, tm = { t with ft := ft' } := ⟨_, rfl⟩
      have hg := hI.g
      rw [← hDm, ← htm] at hg
      have hNF : tm.F = t.F ∧ tm.eF = t.eF ∧ tm.cF = t.cF ∧ tm.k1 = t.k1 ∧ tm.k2 = t.k2 ∧ tm.vn = t.vn := by rw [htm]; exact ⟨rfl, rfl, rfl, rfl, rfl, rfl⟩
      have hDs : Dm.turns = D.turns ∧ Dm.safeN = D.safeN := by rw [hDm]; exact ⟨rfl, rfl⟩
      obtain ⟨K, hK⟩ : ∃ K, K = firstN pn D.turns.length := ⟨_, rfl⟩
      have hKle : K ≤ D.turns.length := by rw [hK]; exact firstN_le _ _
      have hWm : WD n Dm := by rw [hDm]; exact H.out.2.crashD _ _
      have hnam : wr.ownsRow 0 104 3 t.vn D.turns.length (encT D.turns) := by
        have := hg.dk.nam
        rw [hNF.2.2.2.2.2, hDs.1] at this
        exact this
      have hF := hg.dk.hF
      have hpf := hg.dk.pf
      rw [hNF.1, hNF.2.1, hNF.2.2.1] at hF
      rw [hDs.2] at hpf
      obtain ⟨aT, cT, hrunT, hT⟩ := ownT_to hnam K hKle
      obtain ⟨av, cv, hvn⟩ := own_shape hnam
      have hTl := H.out.2.tur
      have hrnd : ∀ w, Calls Tryz.prog 43 #[.int .i64 pn, .int .i64 ((D.turns.length : Int) + 1)] w fun x w' => x = .returned (.int .i64 (K : Nat)) ∧ w' = w := fun w => by
        rw [hK]
        exact round_first pn _ w hpn (by omega)
      have hb4 : Below wr.heap.size wr (wr.alloc (.map t.eF t.cF)) := (Below.refl _ _).alloc (Nat.le_refl _) _
      have hN4 : MG KS (wr.alloc (.map t.eF t.cF)) wr.heap.size tm.kf t.eF t.cF := ⟨hp_new _ _, hF.hold, hF.nd, hF.kvs, hF.keys⟩
      have e5' : wr.cell? ⟨d, 5, none⟩ = some (.map (some t.F)) := by rw [← hNF.1, htm]; exact e5
      have e6' : wr.cell? ⟨d, 6, none⟩ = some (.slice av D.turns.length cv) := by rw [← hvn]; exact e6
      rw [hvn] at hrunT
      have HFb := hid hF.blk
      have HT := hid (And.intro hnam hT)
      have HG := hid (And.intro hg (And.intro hI (And.intro hWm (And.intro hpf (And.intro hNF (And.intro hDs (And.intro hDm hK)))))))
      have HRN := hid hrnd
      have HXW := hid (And.intro hwr hnd)
      have HTM := hid htm
      clear hg hI HR hWm hpf hDs hNF hDm hK hnam hF hT hrnd hkp hxr hwr hx1 hM1 hw1 ho1 hbw1 e2 e5 e6 hvn HJ htm
      go_wp2_with (
        go_at_call 42
        refine (mapsClone_any t.F t.eF t.cF _ HFb.out).mono ?_
        rintro e w4 ⟨rfl, e1⟩
        rw [e1]
        clear e1 w4)
      have y0 := (hb4.cell (World.block_lt_of_cell? _ _ q0)).trans q0
      have y6 := (hb4.cell (World.block_lt_of_cell? _ _ e6')).trans e6'
      obtain ⟨W4, hW4⟩ : ∃ W4, W4 = wr.alloc (.map t.eF t.cF) := ⟨_, rfl⟩
      rw [← hW4] at hb4 hN4 y0 y6 ⊢
      have hz4 : W4.heap.size = wr.heap.size + 1 := by rw [hW4]; simp
      have H4 := hid (And.intro hb4 hN4)
      clear hW4 hb4 hN4 e5' e6' q0 q1 q2
      go_quiet ((go_at_call 43; exact Calls.quiet_of_same (HRN.out _)))
      go_wp2
      go_loopw [64] (fun i ws => ∃ (j : Nat) (nv : List (ByteArray × Value)) (es2 : Array MapEntry) (c2 : Nat), j ≤ K ∧ i = .int .i64 j ∧ Hid (MG KS ws wr.heap.size nv es2 c2 ∧ nv.Perm (encN (D.namesAt j)) ∧ Kept (fun q => q = wr.heap.size) W4 ws)) (fun i _ => K - (intOf i).toNat)
      case atStart =>
        refine ⟨0, tm.kf, t.eF, t.cF, Nat.zero_le _, by go_num, hid ⟨?_, HG.out.2.2.2.1, (Kept.refl _ W4).drewQ nq⟩⟩
        exact H4.out.2.below (below_drewN (Below.refl _ _) nq)
      case round =>
        rename World => ws
        obtain ⟨j, nv, es2, c2, hj, rfl, HJ2⟩ := hrel
        obtain ⟨hMs, hps, hks⟩ := HJ2.out
        have hsz := hks.size
        by_cases hjl : j < K
        · have i4 : (j : Int) < (K : Int) := by omega
          have hjt : j < D.turns.length := by omega
          obtain ⟨x, hx⟩ : ∃ x, x = D.turns[j] := ⟨_, rfl⟩
          have hxg : D.turns[j]? = some x := by rw [hx]; exact List.getElem?_eq_getElem hjt
          obtain ⟨hnam, hT⟩ := HT.out
          obtain ⟨gT, e1, hgo⟩ := hT (by omega)
          subst e1
          obtain ⟨r1, r2, r3⟩ := encT_get D.turns j x hxg
          have hgl := (hnam.lt gT hgo).2
          have cc : ∀ o v, (encT D.turns)[o]? = some v → ws.cell? ⟨gT, o, none⟩ = some v := fun o v hv => by
            have h1 := hnam.cells (g := gT) hgo o v hv
            rw [add_lit, Nat.zero_add] at h1
            exact hks.cell ((H4.out.1.cell (World.block_lt_of_cell? _ _ h1)).trans h1) (by dsimp only; omega)
          have k0 := cc _ _ r1
          have k1 := cc _ _ r2
          have k2 := cc _ _ r3
          have r7 : gT < ws.heap.size := by omega
          have hcall := do_gen x.1 x.2.1 x.2.2 wr.heap.size nv es2 c2 (ws.alloc (.cells #[.string x.1, .string x.2.1, .int .i64 x.2.2] 104)) (hMs.below ((Below.refl _ _).alloc (Nat.le_refl _) _))
          have HCa := hid hcall
          have HX2 := hid (And.intro hps (And.intro hks (And.intro hxg hMs.keys)))
          clear hcall hps hks hx hxg hMs hnam hT r1 r2 r3 cc HJ2
          go_wp2_with (
            go_at_call 44
            refine HCa.out.mono ?_
            rintro e w5 ⟨rfl, ⟨es3, c3, hM3⟩, hk3⟩
            have H5 := hid (And.intro hM3 hk3)
            clear hM3 hk3)
          go_roundw
          case rel =>
            obtain ⟨hM3, hk3⟩ := H5.out
            obtain ⟨hps, hks, hxg, hkeys⟩ := HX2.out
            refine ⟨j + 1, _, es3, c3, by omega, by go_num, hid ⟨hM3, ?_, ?_⟩⟩
            · rw [namesAt_succ D j x hxg]
              exact doN_perm x.1 x.2.1 x.2.2 hps hkeys
            · exact (hks.trans ((Kept.refl (fun q => q = wr.heap.size) ws).alloc _) (fun _ _ e => e)).trans hk3 (fun _ _ e => e)
          case measure => simp [intOf]; omega
        · have i5 : ¬ (j : Int) < (K : Int) := by omega
          have ej : j = K := by omega
          subst ej
          obtain ⟨hg, hI, hWm, hpf, hNF, hDs, hDm, hK⟩ := HG.out
          have hcn : crashNm pn D = D.namesAt j := by unfold crashNm; rw [hK]
          have hnok : NOK Dm.files (crashNm pn D) := by
            rw [hcn]
            have := hWm.saf j
            have e : Dm.namesAt j = D.namesAt j := by unfold Dq.namesAt; rw [hDs.1, hDs.2]
            rw [e] at this
            exact this
          have hkrs : Kept (fun q => q = wr.heap.size) wr ws := ((Kept.ofBelow H4.out.1).mono (fun _ _ e => e.elim)).trans hks (fun _ _ e => e)
          have hds : DkT ws d tm Dm := hg.dk.kept hkrs (fun q e e2 => by have := hg.dk.lt q e; omega)
          have hst := settle_dk hds hWm.nd wr.heap.size c2 nv es2 hMs (crashNm pn D) (by rw [hcn]; exact hps) hnok (fun b e => by
            rw [hNF.2.2.2.1, hNF.2.2.2.2.1] at e
            have : b < w.heap.size := by
              rcases e with e | e
              · exact H.out.1.lt b (.inr (.inr (.inr (.inr (.inr (.inl e))))))
              · exact H.out.1.lt b (.inr (.inr (.inr (.inr (.inr (.inr (.inl e)))))))
            omega)
          have HST := hid hst
          have HS := hid (And.intro hMs (And.intro hps (And.intro hkrs (And.intro hds (And.intro hcn hnok)))))
          clear hst hMs hps hkrs hds hcn hnok hg hI hWm hpf hNF hDs hDm hK hks HJ2
          go_wp2_with (
            go_at_call 45
            refine HST.out.mono ?_
            rintro e w5 ⟨rfl, t5, h5, hk5, hf5, n1, n2, n3, n4⟩
            obtain ⟨-, -, -, -, -, -, -, z7, -⟩ := h5.disk.cells
            have zf := h5.disk.free
            have H5 := hid (And.intro h5 (And.intro hk5 hf5))
            clear h5 hk5 hf5 n1 n2 n3 n4)
          have k56 : Kept (fun q => q = d) w5 (w5.setCell ⟨d, 7, none⟩ (.bool false)) := (Kept.refl (fun q => q = d) w5).setCell (p := ⟨d, 7, none⟩) (fun _ => rfl) _
          have hG6 := H5.out.1.about k56 (D' := { settleD (crashNm pn D) Dm with off := false }) (set_block (i := 7) H5.out.1.disk _) rfl rfl rfl rfl rfl
          have hpl := plan_dk hG6.dk (.slice none 0 0) (.slice none 0 0) [] [] (rf_nil _ _) (rf_nil _ _) (by simp) (by simp) (by simp [Value.ownBlock])
          have HPL := hid hpl
          have HG6 := hid (And.intro k56 hG6)
          clear hpl k56 hG6
          go_wp2_with (
            go_at_call 15
            refine HPL.out.mono ?_
            rintro e w7 ⟨rfl, t7, hG7, hk7⟩
            have H7 := hid (And.intro hG7 hk7)
            clear hG7 hk7)
          obtain ⟨hMs, hps, hkrs, hds, hcn, hnok⟩ := HS.out
          obtain ⟨h5, hk5, hf5⟩ := H5.out
          obtain ⟨k56, hG6⟩ := HG6.out
          obtain ⟨hG7, hk7⟩ := H7.out
          obtain ⟨hwr, hnd⟩ := HXW.out
          obtain ⟨hg, hI, hWm, hpf, hNF, hDs, hDm, hK⟩ := HG.out
          have kd7 : Kept (fun q => q = d) ws w7 := (hk5.trans k56 (fun _ _ e => e)).trans hk7 (fun _ _ e => e)
          have hdw : d < w.heap.size := hdl
          have kr7 : Kept (fun q => q = d ∨ q = wr.heap.size) wr w7 := (hkrs.mono (fun _ _ e => .inr e)).trans kd7 (fun _ _ e => .inl e)
          have hM7 : MG KS w7 wr.heap.size nv es2 c2 := hMs.kept kd7 (by omega)
          have hw7 := hp_kept hwr kr7 (by omega)
          have x7 : w7.cell? ⟨w.heap.size + 2, 0, none⟩ = some (.map (some (w.heap.size + 1))) := by rw [cell_of_row w7 _ 0 _ _ _ hw7]; rfl
          have hMM : MG KI w7 (w.heap.size + 1) kv es c := hI.m.kept kr7 (by omega)
          have hlen : (crashNm pn D).length ≤ 1000000 := by
            have h1 := hWm.nlen hnok
            have h2 := hWm.cnt
            have h3 := hWm.lim
            omega
          have hz7 := kr7.size
          have hGw : Goes d w t D w7 t7 (crashP pn (pksOf pk) D).2 ∧ ∀ Y, Y < wr.heap.size → ¬ Dft d tm Dm Y → ¬ Dft d t7 (crashP pn (pksOf pk) D).2 Y := by
            have g1 : Goes d wr tm Dm w5 t5 (settleD (crashNm pn D) Dm) := by
              refine ⟨h5, (hkrs.mono (S' := Dft d tm Dm) (fun q hq e => by omega)).trans hk5 (fun _ _ e => .inl e), fun q e => ?_⟩
              rcases hf5 q e with e | e | e
              · exact .inl e
              · exact .inr (Nat.le_trans hkrs.size e)
              · exact .inr (by omega)
            have g2 := ((hg.trans g1).trans hG6).trans hG7
            have g3 := (g1.trans hG6).trans hG7
            have e9 : planD [] [] { settleD (crashNm pn D) Dm with off := false } = (crashP pn (pksOf pk) D).2 := by
              rw [hDm, HM.out]
              rfl
            rw [e9] at g2 g3
            exact ⟨g2, fun Y h1 h2 e => by rcases g3.ft Y e with e | e; exact h2 e; omega⟩
          have htold := told_dkP (fun Y => w.heap.size ≤ Y ∧ ¬ Dft d t7 (crashP pn (pksOf pk) D).2 Y) wr.heap.size c2 46 nv es2 #[.pointer (some ⟨w.heap.size + 2, 0, none⟩)] (crashNm pn D) (wholeN (pksOf pk) D) w7 hM7 (by rw [hcn]; exact hps) hnok.ok hlen (enters_of Tryz.func46 (by kernel_rfl) rfl) (fun x hx wx hbx => by
            have hx2 := hnok.l x hx
            rw [hDm] at hx2
            have hx3 : x.2 ∈ D.files.map Fi.no := by
              have e := crashTo_no (pksOf pk) j D.files
              rw [← crashTo_no (pksOf pk) k D.files]
              exact hx2
            obtain ⟨f, hf, ef⟩ := List.mem_map.1 hx3
            obtain ⟨i, hi⟩ := List.mem_iff_getElem?.1 hf
            have hil : i < k := by
              have := (List.getElem?_eq_some_iff.1 hi).1
              rw [HM.out]
              exact this
            obtain ⟨Y, y1, y2, y3, y4⟩ := hI.row i f hil hi
            rw [← HTM.out, ← hDm] at y4
            rw [← ef, wholeN_at (pksOf pk) D H.out.2.nd i f hi]
            have hYr := hp_lt y2
            have hO7 : Own w7 Y (wholeF (pkAt (pksOf pk) i).1 f).1 := hp_kept y2 kr7 (by omega)
            refine (crash1_gen (w.heap.size + 2) (w.heap.size + 1) c kv es f.no _ wx ((hbx.cell (World.block_lt_of_cell? _ _ x7)).trans x7) (hMM.below hbx) y1).mono ?_
            rintro e w8 ⟨rfl, rfl⟩
            exact ⟨Y, rfl, hp_below hO7 hbx (hp_lt hO7), ⟨y3, hGw.2 Y hYr y4⟩, Below.refl _ _⟩)
          have HTO := hid htold
          have HGW := hid hGw.1
          have HZ7 := hid (show w.heap.size ≤ w7.heap.size from hGw.1.kp.size)
          clear hMs hps hkrs hds hcn hnok h5 hk5 hf5 k56 hG6 hG7 hk7 hwr hnd hg hI hWm hpf hNF hDs hDm hK kd7 kr7 hM7 hw7 x7 hMM hlen htold hGw
          go_wp2_with (
            go_at_call 37
            refine HTO.out.mono ?_
            rintro e w8 ⟨v, rfl, hF8, hb8⟩
            have H8 := hid (And.intro hF8 hb8)
            clear hF8 hb8)
          go_ret
          exact ⟨v, t7, rfl, ⟨_, HZ7.out, H8.out.1⟩, HGW.out.trans (Goes.still HGW.out.dk H8.out.2)⟩

end

end Go.Proofs.YtlmompdfombgeabGreat.O
