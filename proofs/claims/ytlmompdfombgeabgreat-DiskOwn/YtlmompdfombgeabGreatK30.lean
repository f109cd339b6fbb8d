import Derived.Test.YtlmompdfombgeabGreatK28
import Derived.Test.YtlmompdfombgeabGreatK29
namespace Go.Proofs.YtlmompdfombgeabGreat
open Go.RowKit Go.MapKept

theorem cs_off {w : World} {b i j : Nat} (h : i ≠ j) (v : Value) : (w.setCell ⟨b, i, none⟩ v).cell? ⟨b, j, none⟩ = w.cell? ⟨b, j, none⟩ := World.cell?_setCell_other w _ _ v (fun e => h (by injection e))
theorem cs_blk {w : World} {p q : Nat} (h : p ≠ q) (i j : Nat) (v : Value) : (w.setCell ⟨p, i, none⟩ v).cell? ⟨q, j, none⟩ = w.cell? ⟨q, j, none⟩ := World.cell?_setCell_other w _ _ v (fun e => h (by injection e))
theorem cs_same {w : World} {a : Addr} {v u : Value} (h : w.cell? a = some u) : (w.setCell a v).cell? a = some v := by
  first | exact World.cell?_setCell_same _ _ _ h | exact World.cell?_setCell_same _ _ _ _ h | exact World.cell?_setCell_same (h := h) ..

/-- What stands in a block of bytes. -/
def updC (C : Nat → List Int) (Y : Nat) (l : List Int) : Nat → List Int := fun Z => if Z = Y then l else C Z

theorem updC_self (C : Nat → List Int) (Y : Nat) (l : List Int) : updC C Y l Y = l := by simp [updC]
theorem updC_ne (C : Nat → List Int) {Y Z : Nat} (l : List Int) (h : Z ≠ Y) : updC C Y l Z = C Z := by simp [updC, h]

/-- The blocks of a list of files. -/
def FkB (h n : Nat) (Y : Nat → Nat) (q : Nat) : Prop := (0 < n ∧ q = h) ∨ ∃ i, i < n ∧ q = Y i

/-- A list of files: its headers in block h, the bytes of the i-th in block Y i; C: what stands in the blocks. -/
structure Fk (w : World) (h n : Nat) (Y len : Nat → Nat) (C : Nat → List Int) : Prop where
  bk : 0 < n → ∃ ar, w.heap[h]? = some (.cells ar 45 (0, 0))
  c0 : ∀ i, i < n → ∃ nm, w.cell? ⟨h, i * 2, none⟩ = some (.string nm)
  c1 : ∀ i, i < n → w.cell? ⟨h, i * 2 + 1, none⟩ = some (.slice (some ⟨Y i, 0, none⟩) (len i) (len i))
  ct : ∀ i, i < n → Own w (Y i) (C (Y i)) ∧ (C (Y i)).length = len i

theorem Fk.ne {w : World} {h n : Nat} {Y len : Nat → Nat} {C : Nat → List Int} (f : Fk w h n Y len C) {i : Nat} (hi : i < n) : Y i ≠ h := by
  intro e
  obtain ⟨ar, h1⟩ := f.bk (by omega)
  have h2 := (f.ct i hi).1
  unfold Own at h2
  rw [e, h1] at h2
  injection h2 with h2
  injection h2 with _ h2
  exact absurd h2 (by decide)

/-- A byte written. -/
theorem Fk.set {w : World} {h n : Nat} {Y len : Nat → Nat} {C : Nat → List Int} (f : Fk w h n Y len C) {i : Nat} (hi : i < n) {k : Nat} (hk : k < len i) (y : Int) :
    (∃ x, w.cell? ⟨Y i, k, none⟩ = some (.int .u8 x)) ∧ (∀ o, w.frozen? ⟨Y i, o, none⟩ = false) ∧ Fk (w.setCell ⟨Y i, k, none⟩ (.int .u8 y)) h n Y len (updC C (Y i) ((C (Y i)).set k y)) := by
  obtain ⟨o1, o2⟩ := f.ct i hi
  obtain ⟨x, hx⟩ : ∃ x, (C (Y i))[k]? = some x := ⟨_, List.getElem?_eq_getElem (by omega)⟩
  have hne := f.ne hi
  refine ⟨⟨x, Own.cell o1 k x hx⟩, fun o => free_of_block o1, ⟨fun h0 => ?_, fun j hj => ?_, fun j hj => ?_, fun j hj => ?_⟩⟩
  · obtain ⟨ar, h1⟩ := f.bk h0
    exact ⟨ar, hp_set h1 (fun e => hne e.symm) _⟩
  · obtain ⟨nm, h1⟩ := f.c0 j hj
    exact ⟨nm, by rw [cs_blk hne]; exact h1⟩
  · rw [cs_blk hne]
    exact f.c1 j hj
  · obtain ⟨p1, p2⟩ := f.ct j hj
    by_cases e : Y j = Y i
    · rw [e, updC_self]
      refine ⟨Own.set o1 k y, ?_⟩
      rw [List.length_set, ← e]
      exact p2
    · rw [updC_ne _ _ e]
      exact ⟨hp_set p1 e _, p2⟩

/-- A name written. -/
theorem Fk.name {w : World} {h n : Nat} {Y len : Nat → Nat} {C : Nat → List Int} (f : Fk w h n Y len C) {i : Nat} (hi : i < n) (nm : ByteArray) :
    (∃ x, w.cell? ⟨h, i * 2, none⟩ = some (.string x)) ∧ (∀ o, w.frozen? ⟨h, o, none⟩ = false) ∧ Fk (w.setCell ⟨h, i * 2, none⟩ (.string nm)) h n Y len C := by
  obtain ⟨ar, h1⟩ := f.bk (by omega)
  refine ⟨f.c0 i hi, fun o => free_of_block h1, ⟨fun _ => ?_, fun j hj => ?_, fun j hj => ?_, fun j hj => ?_⟩⟩
  · exact ⟨_, set_block (i := i * 2) h1 (.string nm)⟩
  · by_cases e : j = i
    · subst e
      obtain ⟨x, hx⟩ := f.c0 j hj
      exact ⟨nm, cs_same hx⟩
    · obtain ⟨x, hx⟩ := f.c0 j hj
      exact ⟨x, by rw [cs_off (by omega)]; exact hx⟩
  · rw [cs_off (by omega)]
    exact f.c1 j hj
  · obtain ⟨p1, p2⟩ := f.ct j hj
    exact ⟨hp_set p1 (f.ne hj) _, p2⟩

/-- The bytes that a block has. -/
def bytesOf (w : World) (Z : Nat) : List Int :=
  match w.heap[Z]? with
  | some (.cells ar _ _) => ar.toList.map fun v => match v with | .int _ x => x | _ => 0
  | _ => []

theorem bytesOf_own {w : World} {Z : Nat} {bs : List Int} (h : Own w Z bs) : bytesOf w Z = bs := by
  unfold bytesOf
  unfold Own at h
  rw [h]
  simp [B8, Function.comp_def]

/-- A list that was told, as blocks. -/
theorem fk_of {w : World} {P : Nat → Prop} {B : Nat} {v : Value} {l : List (ByteArray × List Int)} (hf : O.FbP w P B v l) : ∃ ao c hb Y len C, v = .slice ao l.length c ∧ (0 < l.length → ao = some ⟨hb, 0, none⟩) ∧ Fk w hb l.length Y len C ∧ (∀ q, FkB hb l.length Y q → q < w.heap.size) ∧ (0 < l.length → B ≤ hb) ∧ (∀ i, i < l.length → P (Y i)) ∧ ∀ i x, l[i]? = some x → len i = x.2.length := by
  obtain ⟨ys, h1, h2, h3⟩ := hf
  obtain ⟨ao, c, rfl⟩ := own_shape h2
  have hflat : ∀ (i : Nat) (x : ByteArray × List Int) (Y : Nat), l[i]? = some x → ys[i]? = some Y → ((l.zip ys).flatMap fun x => [Value.string x.1.1, .slice (some ⟨x.2, 0, none⟩) x.1.2.length x.1.2.length])[i * 2]? = some (.string x.1) ∧ ((l.zip ys).flatMap fun x => [Value.string x.1.1, .slice (some ⟨x.2, 0, none⟩) x.1.2.length x.1.2.length])[i * 2 + 1]? = some (.slice (some ⟨Y, 0, none⟩) x.2.length x.2.length) := by
    intro i x Y hx hY
    have hz : (l.zip ys)[i]? = some (x, Y) := by simp [List.getElem?_zip_eq_some, hx, hY]
    have q0 := flat_get (fun x : (ByteArray × List Int) × Nat => [Value.string x.1.1, .slice (some ⟨x.2, 0, none⟩) x.1.2.length x.1.2.length]) 2 (fun _ => rfl) (l.zip ys) i 0 (by omega)
    have q1 := flat_get (fun x : (ByteArray × List Int) × Nat => [Value.string x.1.1, .slice (some ⟨x.2, 0, none⟩) x.1.2.length x.1.2.length]) 2 (fun _ => rfl) (l.zip ys) i 1 (by omega)
    rw [hz] at q0 q1
    exact ⟨by simpa using q0, by simpa using q1⟩
  have hone : ∀ u ∈ ((l.zip ys).flatMap fun x => [Value.string x.1.1, .slice (some ⟨x.2, 0, none⟩) x.1.2.length x.1.2.length]), u.oneCell' = true := by
    intro u hu
    obtain ⟨x, _, hx⟩ := List.mem_flatMap.1 hu
    rcases List.mem_cons.1 hx with e | e
    · rw [e]; rfl
    · rw [List.mem_singleton.1 e]; rfl
  have hget : ∀ i, i < l.length → ∃ x Y, l[i]? = some x ∧ ys[i]? = some Y := fun i hi => ⟨_, _, List.getElem?_eq_getElem hi, List.getElem?_eq_getElem (by omega)⟩
  by_cases h0 : 0 < l.length
  · rcases h2.2 with ⟨_, e⟩ | ⟨g, cap, cur, e, hB, hg, _⟩
    · omega
    · have hrf := rf_of_owns h2 hone
      obtain ⟨b, off, cap2, e2, _, _, q3⟩ := hrf.lits h0 (by omega)
      injection e with e1 _ _
      injection e2 with e21 _ _
      rw [e1] at e21
      injection e21 with e21
      injection e21 with e22 e23
      subst e22 e23
      refine ⟨ao, c, g, fun i => ys.getD i 0, fun i => ((l[i]?).map fun x => x.2.length).getD 0, bytesOf w, rfl, fun _ => e1, ⟨fun _ => ⟨cur, hg⟩, fun i hi => ?_, fun i hi => ?_, fun i hi => ?_⟩, ?_, fun _ => hB, ?_, fun i x hx => by simp [hx]⟩
      · obtain ⟨x, Y, hx, hY⟩ := hget i hi
        exact ⟨x.1, by simpa using q3 _ _ (hflat i x Y hx hY).1⟩
      · obtain ⟨x, Y, hx, hY⟩ := hget i hi
        have := q3 _ _ (hflat i x Y hx hY).2
        simpa [hx, hY, List.getD_eq_getElem?_getD] using this
      · obtain ⟨x, Y, hx, hY⟩ := hget i hi
        obtain ⟨p1, p2⟩ := h3 i x Y hx hY
        have e5 : ys.getD i 0 = Y := by simp [hY, List.getD_eq_getElem?_getD]
        rw [e5, bytesOf_own p1]
        exact ⟨p1, by simp [hx]⟩
      · rintro q (⟨_, rfl⟩ | ⟨i, hi, rfl⟩)
        · exact hp_lt hg
        · obtain ⟨x, Y, hx, hY⟩ := hget i hi
          obtain ⟨p1, p2⟩ := h3 i x Y hx hY
          have e5 : ys.getD i 0 = Y := by simp [hY, List.getD_eq_getElem?_getD]
          dsimp only
          rw [e5]
          exact p1.lt
      · intro i hi
        obtain ⟨x, Y, hx, hY⟩ := hget i hi
        have e5 : ys.getD i 0 = Y := by simp [hY, List.getD_eq_getElem?_getD]
        dsimp only
        rw [e5]
        exact (h3 i x Y hx hY).2
  · refine ⟨ao, c, 0, fun _ => 0, fun i => ((l[i]?).map fun x => x.2.length).getD 0, bytesOf w, rfl, fun h => absurd h h0, ⟨fun h => absurd h h0, fun i hi => by omega, fun i hi => by omega, fun i hi => by omega⟩, fun q hq => by rcases hq with ⟨h, _⟩ | ⟨i, hi, _⟩ <;> omega, fun h => absurd h h0, fun i hi => by omega, fun i x hx => by simp [hx]⟩

end Go.Proofs.YtlmompdfombgeabGreat

namespace Go.Proofs.YtlmompdfombgeabGreat
open Go.RowKit Go.MapKept

/-- A list that is being spoilt: the first i whole, of the i-th the first k bytes. -/
structure SpI (w wr : World) (h n : Nat) (Y len : Nat → Nat) (C : Nat → List Int) (mk : Int) (C' : Nat → List Int) (i k : Nat) : Prop where
  f : Fk wr h n Y len C'
  dn : ∀ j, j < i → j < n → C' (Y j) = List.replicate (len j) mk
  pt : i < n → ∀ p, p < k → (C' (Y i))[p]? = some mk
  ot : ∀ Z, (∀ j, j < n → Y j ≠ Z) → C' Z = C Z
  kp : Kept (FkB h n Y) w wr
  sz : wr.heap.size = w.heap.size

theorem spI_start {w : World} {h n : Nat} {Y len : Nat → Nat} {C : Nat → List Int} (f : Fk w h n Y len C) (mk : Int) : SpI w w h n Y len C mk C 0 0 :=
  ⟨f, fun j hj => by omega, fun _ p hp => by omega, fun _ _ => rfl, Kept.refl _ _, rfl⟩

theorem set_size (w : World) (p : Addr) (v : Value) : (w.setCell p v).heap.size = w.heap.size := by simp [World.setCell]

theorem SpI.byte {w wr : World} {h n : Nat} {Y len : Nat → Nat} {C : Nat → List Int} {mk : Int} {C' : Nat → List Int} {i k : Nat} (s : SpI w wr h n Y len C mk C' i k) (hi : i < n) (hk : k < len i) :
    (∃ x, wr.cell? ⟨Y i, k, none⟩ = some (.int .u8 x)) ∧ (∀ o, wr.frozen? ⟨Y i, o, none⟩ = false) ∧ SpI w (wr.setCell ⟨Y i, k, none⟩ (.int .u8 mk)) h n Y len C mk (updC C' (Y i) ((C' (Y i)).set k mk)) i (k + 1) := by
  obtain ⟨e1, e2, e3⟩ := s.f.set hi hk mk
  obtain ⟨_, q2⟩ := s.f.ct i hi
  refine ⟨e1, e2, ⟨e3, fun j hj hjn => ?_, fun _ p hp => ?_, fun Z hZ => ?_, s.kp.setCell (fun _ => .inr ⟨i, hi, rfl⟩) _, by rw [set_size]; exact s.sz⟩⟩
  · by_cases e : Y j = Y i
    · have h1 := s.dn j hj hjn
      rw [e, updC_self, ← e, h1]
      apply List.ext_getElem?
      intro p
      rw [List.getElem?_set]
      split
      · rename_i ep
        subst ep
        have hkj : k < len j := by
          have h2 := (s.f.ct j hjn).2
          rw [e, q2] at h2
          omega
        simp [hkj]
      · rfl
    · rw [updC_ne _ _ e]
      exact s.dn j hj hjn
  · rw [updC_self]
    by_cases e : p = k
    · subst e
      rw [List.getElem?_set_self (by omega)]
    · rw [List.getElem?_set_ne (fun e2 => e e2.symm)]
      exact s.pt hi p (by omega)
  · rw [updC_ne _ _ (fun e => hZ i hi e.symm)]
    exact s.ot Z hZ

theorem SpI.next {w wr : World} {h n : Nat} {Y len : Nat → Nat} {C : Nat → List Int} {mk : Int} {C' : Nat → List Int} {i : Nat} (s : SpI w wr h n Y len C mk C' i (len i)) (hi : i < n) (nm : ByteArray) :
    (∃ x, wr.cell? ⟨h, i * 2, none⟩ = some (.string x)) ∧ (∀ o, wr.frozen? ⟨h, o, none⟩ = false) ∧ SpI w (wr.setCell ⟨h, i * 2, none⟩ (.string nm)) h n Y len C mk C' (i + 1) 0 := by
  obtain ⟨e1, e2, e3⟩ := s.f.name hi nm
  obtain ⟨_, q2⟩ := s.f.ct i hi
  refine ⟨e1, e2, ⟨e3, fun j hj hjn => ?_, fun _ p hp => by omega, s.ot, s.kp.setCell (fun _ => .inl ⟨by omega, rfl⟩) _, by rw [set_size]; exact s.sz⟩⟩
  by_cases e : j = i
  · subst e
    apply List.ext_getElem?
    intro p
    by_cases hp : p < len j
    · rw [s.pt hjn p hp]
      simp [hp]
    · rw [List.getElem?_eq_none (by omega), List.getElem?_eq_none (by simp; omega)]
  · exact s.dn j (by omega) hjn

set_option maxRecDepth 100000 in
set_option maxHeartbeats 3200000 in
/-- spoil. -/
theorem spoil_any (ao : Option Addr) (c h n : Nat) (Y len : Nat → Nat) (C : Nat → List Int) (mk : Int) (w : World) (hao : 0 < n → ao = some ⟨h, 0, none⟩) (hn : n ≤ 1000000) (hl : ∀ i, i < n → len i ≤ 100000000) (f : Fk w h n Y len C) :
    Calls Tryz.prog 33 #[.slice ao n c, .int .u8 mk] w fun x w' => x = .returned (.tuple #[]) ∧ ∃ C', SpI w w' h n Y len C mk C' n 0 := by
  have HS := hid (spI_start f mk)
  have HA := hid hao
  have HL := hid hl
  clear f hao hl
  go_enter Tryz.func33, Tryz.ntmps33
  go_wp2_with fail
  go_loopw [4] (fun ix wr => ∃ (i : Nat) (C' : Nat → List Int), i ≤ n ∧ ix = .int .i64 i ∧ Hid (SpI w wr h n Y len C mk C' i 0)) (fun ix _ => n - (intOf ix).toNat)
  case atStart => exact ⟨0, C, Nat.zero_le _, rfl, HS⟩
  case round =>
    clear HS
    obtain ⟨i, C', hi, rfl, hS⟩ := hrel
    by_cases hlt : i < n
    · have hlt' : (i : Int) < (n : Int) := by omega
      obtain rfl := HA.out (by omega)
      have hli := HL.out i hlt
      obtain ⟨m, hm⟩ : ∃ m, len i = m := ⟨_, rfl⟩
      rw [hm] at hli
      have HM := hid hm
      clear hm
      go_wp2_with fail
      go_loopw [5] (fun ik wq => ∃ (k : Nat) (C' : Nat → List Int), k ≤ m ∧ ik = .int .i64 k ∧ Hid (SpI w wq h n Y len C mk C' i k)) (fun ik _ => m - (intOf ik).toNat)
      case atStart => exact ⟨0, C', Nat.zero_le _, rfl, hS⟩
      case round =>
        clear hS
        rename World => wq
        obtain ⟨k, C2, hk, rfl, hS⟩ := hrel
        have y1 := hS.out.f.c1 i hlt
        rw [HM.out] at y1
        by_cases hkl : k < m
        · have hkl' : (k : Int) < (m : Int) := by omega
          obtain ⟨⟨x, y0⟩, yf, hs⟩ := hS.out.byte hlt (by rw [HM.out]; exact hkl)
          have HN := hid hs
          clear hs
          go_wp2
          clear y0 y1 yf
          go_roundw
          case rel => first | exact ⟨k + 1, _, by omega, by go_num, HN⟩ | ((repeat apply Exists.intro); exact ⟨⟨k + 1, _, by omega, by go_num, HN⟩, rfl⟩)
          case measure => simp [intOf]; omega
        · obtain rfl : k = m := by omega
          obtain ⟨⟨x, y0⟩, yf, hs⟩ := SpI.next (show SpI w wq h n Y len C mk C2 i (len i) by rw [HM.out]; exact hS.out) hlt { data := #[115, 112, 111, 105, 108, 116] }
          have HN := hid hs
          clear hs
          go_wp2
          clear y0 y1 yf
          go_roundw
          case rel => first | exact ⟨i + 1, C2, by omega, by go_num, HN⟩ | ((repeat apply Exists.intro); exact ⟨⟨i + 1, C2, by omega, by go_num, HN⟩, rfl⟩)
          case measure => simp [intOf]; omega
    · obtain rfl : i = n := by omega
      go_wp2
      go_end0
      exact ⟨rfl, C', hS.out⟩

end Go.Proofs.YtlmompdfombgeabGreat

namespace Go.Proofs.YtlmompdfombgeabGreat
open Go.RowKit Go.MapKept

/-- A block of one of these types is none of the disk's. -/
theorem DkT.notTy {w : World} {d : Nat} {t : Wt} {D : Dq} (h : DkT w d t D) {k : Nat} {cur : Array Value} {e : TypeId} (he : e = 38 ∨ e = 27 ∨ e = 45 ∨ e = 9 ∨ e = 3 ∨ e = 32) (hk : w.heap[k]? = some (.cells cur e (0, 0))) : ¬ Dft d t D k := by
  have map : ∀ {b : Nat} {es : Array MapEntry} {c : Nat}, w.heap[b]? = some (.map es c) → k ≠ b := by
    rintro b es c hb rfl
    rw [hk] at hb
    cases hb
  rintro (rfl | rfl | rfl | rfl | hv | hv | hv | ⟨f, hf, hv⟩)
  · have := h.disk
    unfold DiskB at this
    rw [hk] at this
    injection this with this
    injection this with _ this
    subst this
    exact absurd he (by decide)
  · exact map h.hL.blk rfl
  · exact map h.hN.blk rfl
  · exact map h.hF.blk rfl
  · obtain ⟨c2, hg⟩ := owns_ty h.nam hv
    rw [hk] at hg
    injection hg with hg
    injection hg with _ hg
    subst hg
    exact absurd he (by decide)
  · have h1 := h.kf1
    rw [hv] at h1
    obtain ⟨es, c, hb⟩ := h1.blk
    exact map hb rfl
  · have h1 := h.kf2
    rw [hv] at h1
    obtain ⟨es, c, hb⟩ := h1.blk
    exact map hb rfl
  · obtain ⟨cs, ty, hb, hty⟩ := (h.fil f hf).typed k hv
    rw [hk] at hb
    injection hb with hb
    injection hb with _ hb
    subst hb
    rcases hty with rfl | rfl | rfl | rfl <;> exact absurd he (by decide)

theorem Fk.kept {w w' : World} {h n : Nat} {Y len : Nat → Nat} {C : Nat → List Int} {S : Nat → Prop} (f : Fk w h n Y len C) (hk : Kept S w w') (hs : ∀ q, FkB h n Y q → ¬ S q) : Fk w' h n Y len C where
  bk h0 := by
    obtain ⟨ar, h1⟩ := f.bk h0
    exact ⟨ar, (hk.block h (hp_lt h1) (hs h (.inl ⟨h0, rfl⟩))).trans h1⟩
  c0 i hi := by
    obtain ⟨nm, h1⟩ := f.c0 i hi
    exact ⟨nm, hk.cell h1 (hs h (.inl ⟨by omega, rfl⟩))⟩
  c1 i hi := hk.cell (f.c1 i hi) (hs h (.inl ⟨by omega, rfl⟩))
  ct i hi := by
    obtain ⟨p1, p2⟩ := f.ct i hi
    exact ⟨(hk.block _ p1.lt (hs _ (.inr ⟨i, hi, rfl⟩))).trans p1, p2⟩

/-- Only what stands in its own blocks counts. -/
theorem Fk.congr {w : World} {h n : Nat} {Y len : Nat → Nat} {C C' : Nat → List Int} (f : Fk w h n Y len C) (hc : ∀ i, i < n → C' (Y i) = C (Y i)) : Fk w h n Y len C' :=
  ⟨f.bk, f.c0, f.c1, fun i hi => by
    obtain ⟨p1, p2⟩ := f.ct i hi
    rw [hc i hi]
    exact ⟨p1, p2⟩⟩

/-- A row of bytes that was answered: nothing, or full in a block of its own. -/
structure Rk (w : World) (ao : Option Addr) (n c y : Nat) (C : Nat → List Int) : Prop where
  sh : (ao = none ∧ n = 0 ∧ c = 0) ∨ (ao = some ⟨y, 0, none⟩ ∧ c = n)
  ow : ao ≠ none → Own w y (C y) ∧ (C y).length = n

theorem Rk.kept {w w' : World} {ao : Option Addr} {n c y : Nat} {C : Nat → List Int} {S : Nat → Prop} (f : Rk w ao n c y C) (hk : Kept S w w') (hs : ao ≠ none → ¬ S y) : Rk w' ao n c y C :=
  ⟨f.sh, fun h0 => by
    obtain ⟨p1, p2⟩ := f.ow h0
    exact ⟨(hk.block _ p1.lt (hs h0)).trans p1, p2⟩⟩

theorem Rk.congr {w : World} {ao : Option Addr} {n c y : Nat} {C C' : Nat → List Int} (f : Rk w ao n c y C) (hc : ao ≠ none → C' y = C y) : Rk w ao n c y C' :=
  ⟨f.sh, fun h0 => by
    rw [hc h0]
    exact f.ow h0⟩

/-- A list that is kept: its slice, its blocks, its entries. -/
structure Li where
  ao : Option Addr
  c : Nat
  h : Nat
  n : Nat
  Y : Nat → Nat
  len : Nat → Nat
/-- A row that is kept. -/
structure Ri where
  ao : Option Addr
  c : Nat
  n : Nat
  y : Nat

def Li.v (x : Li) : Value := .slice x.ao x.n x.c
def Ri.v (x : Ri) : Value := .slice x.ao x.n x.c

/-- What the law keeps: two disks, lists and rows; g: whose part of the heap a block lies in. -/
structure Ow (w0 W : World) (d1 : Nat) (t1 : Wt) (D1 : Dq) (d2 : Nat) (t2 : Wt) (D2 : Dq) (g : Nat → Nat) (C : Nat → List Int) (lv : Value) (m : Nat) (ls : List Li) (rv : Value) (rs : List Ri) : Prop where
  tw : Two w0 W d1 t1 D1 d2 t2 D2
  z1 : ∀ q, Dft d1 t1 D1 q → g q = 0
  z2 : ∀ q, Dft d2 t2 D2 q → g q = 0
  zf : ∀ q, W.heap.size ≤ q → g q = 0
  hl : W.ownsRow w0.heap.size 38 1 lv m ((ls.take m).map Li.v)
  hm : m ≤ ls.length
  zl : ∀ q, lv.ownBlock = some q → g q = 0
  hr : W.ownsRow w0.heap.size 27 1 rv rs.length (rs.map Ri.v)
  zr : ∀ q, rv.ownBlock = some q → g q = 0
  li : ∀ (j : Nat) (x : Li), ls[j]? = some x → Fk W x.h x.n x.Y x.len C ∧ (0 < x.n → x.ao = some ⟨x.h, 0, none⟩) ∧ x.n ≤ 1000 ∧ (∀ i, i < x.n → x.len i ≤ 4194304) ∧ ∀ q, FkB x.h x.n x.Y q → g q = 2 * j + 1 ∧ w0.heap.size ≤ q
  ri : ∀ (j : Nat) (x : Ri), rs[j]? = some x → Rk W x.ao x.n x.c x.y C ∧ x.n ≤ 4194304 ∧ (x.ao ≠ none → g x.y = 2 * j + 2 ∧ w0.heap.size ≤ x.y)

section
variable {w0 W W' : World} {d1 d2 : Nat} {t1 t2 t' : Wt} {D1 D2 D' : Dq} {g : Nat → Nat} {C : Nat → List Int} {lv rv : Value} {m : Nat} {ls : List Li} {rs : List Ri}

/-- Nothing that is kept is written. -/
theorem Ow.part (o : Ow w0 W d1 t1 D1 d2 t2 D2 g C lv m ls rv rs) {S : Nat → Prop} (hk : Kept S W W') (hS : ∀ q, q < W.heap.size → S q → g q = 0)
    (hl : ∀ q, lv.ownBlock = some q → ¬ S q) (hr : ∀ q, rv.ownBlock = some q → ¬ S q) {t1' t2' : Wt} {D1' D2' : Dq} (tw : Two w0 W' d1 t1' D1' d2 t2' D2') (z1 : ∀ q, Dft d1 t1' D1' q → g q = 0) (z2 : ∀ q, Dft d2 t2' D2' q → g q = 0) :
    Ow w0 W' d1 t1' D1' d2 t2' D2' g C lv m ls rv rs where
  tw := tw
  z1 := z1
  z2 := z2
  zf q hq := o.zf q (Nat.le_trans hk.size hq)
  hl := ownsRow_kept o.hl hk hl
  hm := o.hm
  zl := o.zl
  hr := ownsRow_kept o.hr hk hr
  zr := o.zr
  li j x hx := by
    obtain ⟨p1, p2, p3, p4, p5⟩ := o.li j x hx
    refine ⟨p1.kept hk fun q h1 hs => ?_, p2, p3, p4, p5⟩
    have h2 := (p5 q h1).1
    by_cases hq : q < W.heap.size
    · have := hS q hq hs
      omega
    · have := o.zf q (by omega)
      omega
  ri j x hx := by
    obtain ⟨p1, p2, p3⟩ := o.ri j x hx
    refine ⟨p1.kept hk fun h1 hs => ?_, p2, p3⟩
    have h2 := (p3 h1).1
    by_cases hq : x.y < W.heap.size
    · have := hS _ hq hs
      omega
    · have := o.zf x.y (by omega)
      omega

theorem Ow.below (o : Ow w0 W d1 t1 D1 d2 t2 D2 g C lv m ls rv rs) (hb : Below W.heap.size W W') : Ow w0 W' d1 t1 D1 d2 t2 D2 g C lv m ls rv rs :=
  o.part (Kept.ofBelow hb) (fun _ _ h => h.elim) (fun _ _ h => h) (fun _ _ h => h) (o.tw.below hb) o.z1 o.z2

theorem Ow.left (o : Ow w0 W d1 t1 D1 d2 t2 D2 g C lv m ls rv rs) (h : Goes d1 W t1 D1 W' t' D') : Ow w0 W' d1 t' D' d2 t2 D2 g C lv m ls rv rs :=
  o.part h.kp (fun q _ e => o.z1 q e) (fun q e => by obtain ⟨cur, hc⟩ := owns_ty o.hl e; exact o.tw.h1.notTy (by decide) hc) (fun q e => by obtain ⟨cur, hc⟩ := owns_ty o.hr e; exact o.tw.h1.notTy (by decide) hc) (o.tw.left h)
    (fun q e => by rcases h.ft q e with e | e; exact o.z1 q e; exact o.zf q e) o.z2

theorem Ow.right (o : Ow w0 W d1 t1 D1 d2 t2 D2 g C lv m ls rv rs) (h : Goes d2 W t2 D2 W' t' D') : Ow w0 W' d1 t1 D1 d2 t' D' g C lv m ls rv rs :=
  o.part h.kp (fun q _ e => o.z2 q e) (fun q e => by obtain ⟨cur, hc⟩ := owns_ty o.hl e; exact o.tw.h2.notTy (by decide) hc) (fun q e => by obtain ⟨cur, hc⟩ := owns_ty o.hr e; exact o.tw.h2.notTy (by decide) hc) (o.tw.right h)
    o.z1 (fun q e => by rcases h.ft q e with e | e; exact o.z2 q e; exact o.zf q e)

end

end Go.Proofs.YtlmompdfombgeabGreat

namespace Go.Proofs.YtlmompdfombgeabGreat
open Go.RowKit Go.MapKept

section
variable {w0 W W' : World} {d1 d2 : Nat} {t1 t2 : Wt} {D1 D2 : Dq} {g : Nat → Nat} {C : Nat → List Int} {lv rv : Value} {m : Nat} {ls : List Li} {rs : List Ri}

open Classical in
/-- A list more, its header not laid yet. -/
theorem Ow.addL (o : Ow w0 W d1 t1 D1 d2 t2 D2 g C lv m ls rv rs) (x : Li) {C1 : Nat → List Int} (f : Fk W x.h x.n x.Y x.len C1) (hao : 0 < x.n → x.ao = some ⟨x.h, 0, none⟩) (hn : x.n ≤ 1000) (hl : ∀ i, i < x.n → x.len i ≤ 4194304)
    (hg : ∀ q, FkB x.h x.n x.Y q → g q = 0 ∧ ¬ Dft d1 t1 D1 q ∧ ¬ Dft d2 t2 D2 q ∧ lv.ownBlock ≠ some q ∧ rv.ownBlock ≠ some q ∧ w0.heap.size ≤ q ∧ q < W.heap.size) :
    ∃ g' C', Ow w0 W d1 t1 D1 d2 t2 D2 g' C' lv m (ls ++ [x]) rv rs ∧ ∀ q, W.heap.size ≤ q → g' q = 0 := by
  have hg' : ∀ q, ¬ FkB x.h x.n x.Y q → (if FkB x.h x.n x.Y q then 2 * ls.length + 1 else g q) = g q := fun q h => if_neg h
  have hz : ∀ q, W.heap.size ≤ q → (if FkB x.h x.n x.Y q then 2 * ls.length + 1 else g q) = 0 := fun q h => by
    rw [hg' q (fun e => by have := (hg q e).2.2.2.2.2.2; omega)]
    exact o.zf q h
  refine ⟨fun q => if FkB x.h x.n x.Y q then 2 * ls.length + 1 else g q, fun q => if FkB x.h x.n x.Y q then C1 q else C q, ⟨o.tw, ?_, ?_, hz, ?_, ?_, ?_, o.hr, ?_, ?_, ?_⟩, hz⟩
  · intro q e
    try dsimp only
    rw [hg' q (fun e2 => (hg q e2).2.1 e)]
    exact o.z1 q e
  · intro q e
    try dsimp only
    rw [hg' q (fun e2 => (hg q e2).2.2.1 e)]
    exact o.z2 q e
  · rw [List.take_append_of_le_length o.hm]
    exact o.hl
  · rw [List.length_append]
    have := o.hm
    omega
  · intro q e
    try dsimp only
    rw [hg' q (fun e2 => (hg q e2).2.2.2.1 e)]
    exact o.zl q e
  · intro q e
    try dsimp only
    rw [hg' q (fun e2 => (hg q e2).2.2.2.2.1 e)]
    exact o.zr q e
  · intro j y hy
    by_cases hj : j < ls.length
    · rw [List.getElem?_append_left hj] at hy
      obtain ⟨p1, p2, p3, p4, p5⟩ := o.li j y hy
      have hne : ∀ q, FkB y.h y.n y.Y q → ¬ FkB x.h x.n x.Y q := fun q h1 h2 => by
        have := (p5 q h1).1
        have := (hg q h2).1
        omega
      refine ⟨p1.congr fun i hi => if_neg (hne _ (.inr ⟨i, hi, rfl⟩)), p2, p3, p4, fun q hq => ?_⟩
      try dsimp only
      rw [hg' q (hne q hq)]
      exact p5 q hq
    · have hj2 : j = ls.length := by
        have := (List.getElem?_eq_some_iff.1 hy).1
        rw [List.length_append] at this
        simp at this
        omega
      subst hj2
      rw [List.getElem?_append_right (Nat.le_refl _)] at hy
      simp at hy
      subst hy
      refine ⟨f.congr fun i hi => if_pos (.inr ⟨i, hi, rfl⟩), hao, hn, hl, fun q hq => ?_⟩
      try dsimp only
      rw [if_pos hq]
      exact ⟨rfl, (hg q hq).2.2.2.2.2.1⟩
  · intro j y hy
    obtain ⟨p1, p2, p3⟩ := o.ri j y hy
    have hne : y.ao ≠ none → ¬ FkB x.h x.n x.Y y.y := fun h1 h2 => by
      have := (p3 h1).1
      have := (hg _ h2).1
      omega
    refine ⟨p1.congr fun h1 => if_neg (hne h1), p2, fun h1 => ?_⟩
    try dsimp only
    rw [hg' _ (hne h1)]
    exact p3 h1

open Classical in
/-- A row more, its header not laid yet: its header is laid with it (rows have no such state). -/
theorem Ow.addR (o : Ow w0 W d1 t1 D1 d2 t2 D2 g C lv m ls rv rs) (x : Ri) {C1 : Nat → List Int} (f : Rk W x.ao x.n x.c x.y C1) (hn : x.n ≤ 4194304)
    (hg : x.ao ≠ none → g x.y = 0 ∧ ¬ Dft d1 t1 D1 x.y ∧ ¬ Dft d2 t2 D2 x.y ∧ lv.ownBlock ≠ some x.y ∧ rv.ownBlock ≠ some x.y ∧ w0.heap.size ≤ x.y ∧ x.y < W.heap.size)
    {ao : Option Addr} {c : Nat} {ob : Obj} (hown : W'.ownsRow w0.heap.size 27 1 (.slice ao (rs.length + 1) c) (rs.length + 1) (rs.map Ri.v ++ [x.v])) (hgr : (W.alloc ob).grownBy W' rv.ownBlock) (hob : (Value.slice ao (rs.length + 1) c).ownBlock = rv.ownBlock ∨ (Value.slice ao (rs.length + 1) c).ownBlock = some (W.alloc ob).heap.size) :
    ∃ g' C', Ow w0 W' d1 t1 D1 d2 t2 D2 g' C' lv m ls (.slice ao (rs.length + 1) c) (rs ++ [x]) := by
  have hk : Kept (fun q => rv.ownBlock = some q) W W' := ((Kept.refl _ W).alloc ob).grown hgr (fun _ _ e => e)
  have hnd1 : ∀ q, rv.ownBlock = some q → ¬ Dft d1 t1 D1 q := fun q e => by obtain ⟨cur, hc⟩ := owns_ty o.hr e; exact o.tw.h1.notTy (by decide) hc
  have hnd2 : ∀ q, rv.ownBlock = some q → ¬ Dft d2 t2 D2 q := fun q e => by obtain ⟨cur, hc⟩ := owns_ty o.hr e; exact o.tw.h2.notTy (by decide) hc
  have hlt : ∀ q, rv.ownBlock = some q → w0.heap.size ≤ q ∧ q < W.heap.size := fun q e => o.hr.lt q e
  have htw : Two w0 W' d1 t1 D1 d2 t2 D2 := ⟨o.tw.h1.kept hk (fun q e e2 => hnd1 q e2 e), o.tw.h2.kept hk (fun q e e2 => hnd2 q e2 e), o.tw.lo1, o.tw.lo2, o.tw.dj, o.tw.hb.trans (hk.below o.tw.hb.size (fun q h1 e => by have := hlt q e; omega))⟩
  have hS : ∀ q, q < W.heap.size → rv.ownBlock = some q → g q = 0 := fun q _ e => o.zr q e
  have o2 : Ow w0 W' d1 t1 D1 d2 t2 D2 g C lv m ls (.slice none 0 0) [] := by
    refine ⟨htw, o.z1, o.z2, fun q hq => o.zf q (Nat.le_trans hk.size hq), ownsRow_kept o.hl hk (fun q e e2 => ?_), o.hm, o.zl, owns_nil _ _ _ _, (by intro q e; cases e), fun j y hy => ?_, fun j y hy => by simp at hy⟩
    · obtain ⟨c1, h1⟩ := owns_ty o.hl e
      obtain ⟨c2, h2⟩ := owns_ty o.hr e2
      rw [h1] at h2
      injection h2 with h2
      injection h2 with _ h2
      exact absurd h2 (by decide)
    · obtain ⟨p1, p2, p3, p4, p5⟩ := o.li j y hy
      refine ⟨p1.kept hk fun q h1 e => ?_, p2, p3, p4, p5⟩
      have := (p5 q h1).1
      have := o.zr q e
      omega
  have hrk : ∀ (j : Nat) (y : Ri), rs[j]? = some y → Rk W' y.ao y.n y.c y.y C := fun j y hy => by
    obtain ⟨p1, p2, p3⟩ := o.ri j y hy
    refine p1.kept hk fun h1 e => ?_
    have := (p3 h1).1
    have := o.zr _ e
    omega
  have hfk : Rk W' x.ao x.n x.c x.y C1 := f.kept hk (fun h1 e => (hg h1).2.2.2.2.1 e)
  have hg' : ∀ q, ¬ (x.ao ≠ none ∧ q = x.y) → (if x.ao ≠ none ∧ q = x.y then 2 * rs.length + 2 else g q) = g q := fun q h => if_neg h
  refine ⟨fun q => if x.ao ≠ none ∧ q = x.y then 2 * rs.length + 2 else g q, fun q => if x.ao ≠ none ∧ q = x.y then C1 q else C q, ⟨o2.tw, fun q e => ?_, fun q e => ?_, fun q e => ?_, o2.hl, o2.hm, fun q e => ?_, ?_, fun q e => ?_, fun j y hy => ?_, fun j y hy => ?_⟩⟩
  · try dsimp only
    rw [hg' q (fun ⟨h1, h2⟩ => (hg h1).2.1 (h2 ▸ e))]
    exact o.z1 q e
  · try dsimp only
    rw [hg' q (fun ⟨h1, h2⟩ => (hg h1).2.2.1 (h2 ▸ e))]
    exact o.z2 q e
  · try dsimp only
    have hsz := hk.size
    rw [hg' q (fun ⟨h1, h2⟩ => by have := (hg h1).2.2.2.2.2.2; omega)]
    exact o2.zf q e
  · try dsimp only
    rw [hg' q (fun ⟨h1, h2⟩ => (hg h1).2.2.2.1 (h2 ▸ e))]
    exact o.zl q e
  · rw [List.length_append, List.map_append]
    exact hown
  · try dsimp only
    rcases hob with h | h
    · rw [h] at e
      rw [hg' q (fun ⟨h1, h2⟩ => (hg h1).2.2.2.2.1 (h2 ▸ e))]
      exact o.zr q e
    · rw [h] at e
      injection e with e
      have hq : W.heap.size < q := by rw [← e]; simp
      rw [hg' q (fun ⟨h1, h2⟩ => by have := (hg h1).2.2.2.2.2.2; omega)]
      exact o.zf q (by omega)
  · obtain ⟨p1, p2, p3, p4, p5⟩ := o2.li j y hy
    have hne : ∀ q, FkB y.h y.n y.Y q → ¬ (x.ao ≠ none ∧ q = x.y) := fun q h1 ⟨h2, h3⟩ => by
      subst h3
      have := (p5 _ h1).1
      have := (hg h2).1
      omega
    refine ⟨p1.congr fun i hi => if_neg (hne _ (.inr ⟨i, hi, rfl⟩)), p2, p3, p4, fun q hq => ?_⟩
    try dsimp only
    rw [hg' q (hne q hq)]
    exact p5 q hq
  · by_cases hj : j < rs.length
    · rw [List.getElem?_append_left hj] at hy
      obtain ⟨p1, p2, p3⟩ := o.ri j y hy
      have hne : y.ao ≠ none → ¬ (x.ao ≠ none ∧ y.y = x.y) := fun h1 ⟨h2, h3⟩ => by
        have a1 := (p3 h1).1
        have a2 := (hg h2).1
        rw [h3] at a1
        omega
      refine ⟨(hrk j y hy).congr fun h1 => if_neg (hne h1), p2, fun h1 => ?_⟩
      try dsimp only
      rw [hg' _ (hne h1)]
      exact p3 h1
    · have hj2 : j = rs.length := by
        have := (List.getElem?_eq_some_iff.1 hy).1
        rw [List.length_append] at this
        simp at this
        omega
      subst hj2
      rw [List.getElem?_append_right (Nat.le_refl _)] at hy
      simp at hy
      subst hy
      refine ⟨hfk.congr fun h1 => if_pos ⟨h1, rfl⟩, hn, fun h1 => ?_⟩
      try dsimp only
      rw [if_pos ⟨h1, rfl⟩]
      exact ⟨rfl, (hg h1).2.2.2.2.2.1⟩

end

end Go.Proofs.YtlmompdfombgeabGreat

namespace Go.Proofs.YtlmompdfombgeabGreat
open Go.RowKit Go.MapKept

section
variable {w0 W W' : World} {d1 d2 : Nat} {t1 t2 : Wt} {D1 D2 : Dq} {g : Nat → Nat} {C : Nat → List Int} {lv rv : Value} {m : Nat} {ls : List Li} {rs : List Ri}

/-- Headers laid. -/
theorem Ow.headL (o : Ow w0 W d1 t1 D1 d2 t2 D2 g C lv m ls rv rs) {k : Nat} (hmk : m + k ≤ ls.length) {ao : Option Addr} {c : Nat} {ob : Obj}
    (hown : W'.ownsRow w0.heap.size 38 1 (.slice ao (m + k) c) (m + k) ((ls.take m).map Li.v ++ ((ls.drop m).take k).map Li.v)) (hgr : (W.alloc ob).grownBy W' lv.ownBlock) (hob : (Value.slice ao (m + k) c).ownBlock = lv.ownBlock ∨ (Value.slice ao (m + k) c).ownBlock = some (W.alloc ob).heap.size) :
    Ow w0 W' d1 t1 D1 d2 t2 D2 g C (.slice ao (m + k) c) (m + k) ls rv rs := by
  have hk : Kept (fun q => lv.ownBlock = some q) W W' := ((Kept.refl _ W).alloc ob).grown hgr (fun _ _ e => e)
  have hnd1 : ∀ q, lv.ownBlock = some q → ¬ Dft d1 t1 D1 q := fun q e => by obtain ⟨cur, hc⟩ := owns_ty o.hl e; exact o.tw.h1.notTy (by decide) hc
  have hnd2 : ∀ q, lv.ownBlock = some q → ¬ Dft d2 t2 D2 q := fun q e => by obtain ⟨cur, hc⟩ := owns_ty o.hl e; exact o.tw.h2.notTy (by decide) hc
  have hlt : ∀ q, lv.ownBlock = some q → w0.heap.size ≤ q ∧ q < W.heap.size := fun q e => o.hl.lt q e
  have htw : Two w0 W' d1 t1 D1 d2 t2 D2 := ⟨o.tw.h1.kept hk (fun q e e2 => hnd1 q e2 e), o.tw.h2.kept hk (fun q e e2 => hnd2 q e2 e), o.tw.lo1, o.tw.lo2, o.tw.dj, o.tw.hb.trans (hk.below o.tw.hb.size (fun q h1 e => by have := hlt q e; omega))⟩
  refine ⟨htw, o.z1, o.z2, fun q hq => o.zf q (Nat.le_trans hk.size hq), ?_, hmk, fun q e => ?_, ownsRow_kept o.hr hk (fun q e e2 => ?_), o.zr, fun j y hy => ?_, fun j y hy => ?_⟩
  · rw [List.take_add, List.map_append]
    exact hown
  · rcases hob with h | h
    · rw [h] at e
      exact o.zl q e
    · rw [h] at e
      injection e with e
      exact o.zf q (by rw [← e]; simp)
  · obtain ⟨c1, h1⟩ := owns_ty o.hr e
    obtain ⟨c2, h2⟩ := owns_ty o.hl e2
    rw [h1] at h2
    injection h2 with h2
    injection h2 with _ h2
    exact absurd h2 (by decide)
  · obtain ⟨p1, p2, p3, p4, p5⟩ := o.li j y hy
    refine ⟨p1.kept hk fun q h1 e => ?_, p2, p3, p4, p5⟩
    have := (p5 q h1).1
    have := o.zl q e
    omega
  · obtain ⟨p1, p2, p3⟩ := o.ri j y hy
    refine ⟨p1.kept hk fun h1 e => ?_, p2, p3⟩
    have := (p3 h1).1
    have := o.zl _ e
    omega

/-- What is written lies in blocks of one part. -/
theorem Ow.wrote (o : Ow w0 W d1 t1 D1 d2 t2 D2 g C lv m ls rv rs) {S : Nat → Prop} {p : Nat} (hp : 0 < p) (hS : ∀ q, S q → g q = p ∧ w0.heap.size ≤ q) (hk : Kept S W W') {C' : Nat → List Int} (hC : ∀ q, g q ≠ p → C' q = C q)
    (hli : ∀ j x, ls[j]? = some x → 2 * j + 1 = p → Fk W' x.h x.n x.Y x.len C') (hri : ∀ j x, rs[j]? = some x → 2 * j + 2 = p → Rk W' x.ao x.n x.c x.y C') : Ow w0 W' d1 t1 D1 d2 t2 D2 g C' lv m ls rv rs := by
  have hz : ∀ q, g q = 0 → ¬ S q := fun q h e => by have := (hS q e).1; omega
  have htw : Two w0 W' d1 t1 D1 d2 t2 D2 := ⟨o.tw.h1.kept hk (fun q e e2 => hz q (o.z1 q e) e2), o.tw.h2.kept hk (fun q e e2 => hz q (o.z2 q e) e2), o.tw.lo1, o.tw.lo2, o.tw.dj, o.tw.hb.trans (hk.below o.tw.hb.size (fun q h1 e => by have := (hS q e).2; omega))⟩
  refine ⟨htw, o.z1, o.z2, fun q hq => o.zf q (Nat.le_trans hk.size hq), ownsRow_kept o.hl hk (fun q e => hz q (o.zl q e)), o.hm, o.zl, ownsRow_kept o.hr hk (fun q e => hz q (o.zr q e)), o.zr, fun j y hy => ?_, fun j y hy => ?_⟩
  · obtain ⟨p1, p2, p3, p4, p5⟩ := o.li j y hy
    by_cases e : 2 * j + 1 = p
    · exact ⟨hli j y hy e, p2, p3, p4, p5⟩
    · refine ⟨(p1.kept hk fun q h1 h2 => ?_).congr fun i hi => hC _ ?_, p2, p3, p4, p5⟩
      · have := (p5 q h1).1
        have := (hS q h2).1
        omega
      · have := (p5 _ (.inr ⟨i, hi, rfl⟩)).1
        omega
  · obtain ⟨p1, p2, p3⟩ := o.ri j y hy
    by_cases e : 2 * j + 2 = p
    · exact ⟨hri j y hy e, p2, p3⟩
    · refine ⟨(p1.kept hk fun h1 h2 => ?_).congr fun h1 => hC _ ?_, p2, p3⟩
      · have := (p3 h1).1
        have := (hS _ h2).1
        omega
      · have := (p3 h1).1
        omega

/-- A list spoilt. -/
theorem Ow.spoil (o : Ow w0 W d1 t1 D1 d2 t2 D2 g C lv m ls rv rs) {j : Nat} {x : Li} (hx : ls[j]? = some x) {mk : Int} {C' : Nat → List Int} (s : SpI W W' x.h x.n x.Y x.len C mk C' x.n 0) :
    Ow w0 W' d1 t1 D1 d2 t2 D2 g C' lv m ls rv rs ∧ (∀ i, i < x.n → C' (x.Y i) = List.replicate (x.len i) mk) ∧ ∀ q, g q ≠ 2 * j + 1 → C' q = C q := by
  obtain ⟨p1, p2, p3, p4, p5⟩ := o.li j x hx
  have hC : ∀ q, g q ≠ 2 * j + 1 → C' q = C q := fun q h => s.ot q fun i hi e => h (by rw [← e]; exact (p5 _ (.inr ⟨i, hi, rfl⟩)).1)
  refine ⟨o.wrote (by omega) p5 s.kp hC (fun i y hy e => ?_) (fun i y hy e => by omega), fun i hi => s.dn i hi hi, hC⟩
  have : i = j := by omega
  subst this
  rw [hx] at hy
  injection hy with hy
  subst hy
  exact s.f

/-- A byte of a row written. -/
theorem Ow.setR (o : Ow w0 W d1 t1 D1 d2 t2 D2 g C lv m ls rv rs) {j : Nat} {x : Ri} (hx : rs[j]? = some x) {k : Nat} (hk : k < x.n) (b : Int) :
    x.ao = some ⟨x.y, 0, none⟩ ∧ (∃ y, W.cell? ⟨x.y, k, none⟩ = some (.int .u8 y)) ∧ (∀ a, W.frozen? ⟨x.y, a, none⟩ = false) ∧ Ow w0 (W.setCell ⟨x.y, k, none⟩ (.int .u8 b)) d1 t1 D1 d2 t2 D2 g (updC C x.y ((C x.y).set k b)) lv m ls rv rs := by
  obtain ⟨p1, p2, p3⟩ := o.ri j x hx
  have hao : x.ao = some ⟨x.y, 0, none⟩ := by
    rcases p1.sh with ⟨_, h, _⟩ | ⟨h, _⟩
    · omega
    · exact h
  have hne : x.ao ≠ none := by rw [hao]; simp
  obtain ⟨q1, q2⟩ := p1.ow hne
  obtain ⟨y, hy⟩ : ∃ y, (C x.y)[k]? = some y := ⟨_, List.getElem?_eq_getElem (by omega)⟩
  refine ⟨hao, ⟨y, Own.cell q1 k y hy⟩, fun a => free_of_block q1, ?_⟩
  refine o.wrote (p := 2 * j + 2) (by omega) (S := fun q => q = x.y) (fun q e => by rw [e]; exact p3 hne) ((Kept.refl (fun q => q = x.y) W).setCell (fun _ => rfl) _) (fun q h => updC_ne _ _ (fun e => h (by rw [e]; exact (p3 hne).1))) (fun i z hz e => by omega) (fun i z hz e => ?_)
  have : i = j := by omega
  subst this
  rw [hx] at hz
  injection hz with hz
  subst hz
  refine ⟨p1.sh, fun _ => ?_⟩
  rw [updC_self]
  exact ⟨Own.set q1 k b, by rw [List.length_set]; exact q2⟩

end

end Go.Proofs.YtlmompdfombgeabGreat
