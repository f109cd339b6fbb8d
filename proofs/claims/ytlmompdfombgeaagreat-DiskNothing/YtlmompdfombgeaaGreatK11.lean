import Derived.Test.YtlmompdfombgeaaGreatK10
import Derived.Test.YtlmompdfombgeaaGreatK01
import Derived.Test.YtlmompdfombgeaaGreatK03
namespace Go.Proofs.YtlmompdfombgeaaGreat
open Go.RowKit Go.MapKept

set_option maxHeartbeats 800000 in
theorem round_small (v n : Int) (w : World) (h0 : 0 ≤ v) (h1 : v < n) (h2 : n ≤ 1000000000) : Calls Tryz.prog 94 #[.int .i64 v, .int .i64 n] w fun x w' => x = .returned (.int .i64 v) ∧ w' = w := by
  have e1 : v % n = v := Int.emod_eq_of_lt h0 h1
  have e2 : (v + n) % n = v := by rw [Int.add_emod_right, e1]
  have hn : ¬ n = 0 := by omega
  have hn0 : 0 < n := by omega
  have hv : v ≤ 1000000000 := by omega
  have hn1 : 0 ≤ n := by omega
  have H1 := hid e1
  have H2 := hid e2
  clear e1 e2
  go_enter Tryz.func94, Tryz.ntmps94
  go_wp2
  go_ret
  refine ⟨?_, rfl⟩
  have h3 : (v + n).tmod n = v := by rw [Int.tmod_eq_emod_of_nonneg (by omega), H2.out]
  show Ending.returned (.int .i64 ((wrap64 (v % n + n)).tmod n)) = _
  rw [H1.out, show wrap64 (v + n) = v + n by unfold wrap64; omega, h3]

/-- The bytes from lo on, ahead of k, that a change brought, are noughts. -/
def loseTo (lo k : Nat) (xs : List Int) (fs : List Bool) : List Int := xs.mapIdx fun i x => if lo ≤ i ∧ i < k ∧ fs[i]? = some true then 0 else x

theorem loseTo_len (lo k : Nat) (xs : List Int) (fs : List Bool) : (loseTo lo k xs fs).length = xs.length := by simp [loseTo]
theorem loseTo_start (lo : Nat) (xs : List Int) (fs : List Bool) : loseTo lo lo xs fs = xs := by
  apply List.ext_getElem?
  intro i
  rw [loseTo, List.getElem?_mapIdx]
  have : ∀ x, (if lo ≤ i ∧ i < lo ∧ fs[i]? = some true then (0 : Int) else x) = x := fun x => if_neg (by omega)
  simp [this]
theorem loseTo_yes (lo k : Nat) (xs : List Int) (fs : List Bool) (h : lo ≤ k) (hf : fs[k]? = some true) : (loseTo lo k xs fs).set k 0 = loseTo lo (k + 1) xs fs := by
  apply List.ext_getElem?
  intro i
  rw [List.getElem?_set, loseTo, loseTo, List.getElem?_mapIdx, List.getElem?_mapIdx]
  by_cases hi : k = i
  · subst hi
    simp only [List.length_mapIdx, if_true]
    by_cases hl : k < xs.length
    · simp [hl, h, hf]
    · simp [hl]
  · simp only [hi, if_false]
    congr 1
    funext x
    by_cases a : lo ≤ i ∧ i < k ∧ fs[i]? = some true
    · rw [if_pos a, if_pos ⟨a.1, by omega, a.2.2⟩]
    · rw [if_neg a, if_neg (fun b => a ⟨b.1, by omega, b.2.2⟩)]
theorem loseTo_no (lo k : Nat) (xs : List Int) (fs : List Bool) (hf : fs[k]? = some false) : loseTo lo k xs fs = loseTo lo (k + 1) xs fs := by
  apply List.ext_getElem?
  intro i
  rw [loseTo, loseTo, List.getElem?_mapIdx, List.getElem?_mapIdx]
  congr 1
  funext x
  by_cases a : lo ≤ i ∧ i < k ∧ fs[i]? = some true
  · rw [if_pos a, if_pos ⟨a.1, by omega, a.2.2⟩]
  · rw [if_neg a, if_neg (fun b => a ⟨b.1, ?_, b.2.2⟩)]
    have : i ≠ k := fun e => by subst e; rw [hf] at b; simp at b
    omega

theorem own_set {w : World} {B n g cap : Nat} {xs : List Int} (h : w.ownsRow B 5 1 (.slice (some ⟨g, 0, none⟩) n cap) n (B8 xs)) (j : Nat) (y : Int) : (w.setCell ⟨g, j, none⟩ (.int .u8 y)).ownsRow B 5 1 (.slice (some ⟨g, 0, none⟩) n cap) n (B8 (xs.set j y)) := by
  have hl : xs.length = n := by have := h.1; simp at this; omega
  rcases h.2 with ⟨h1, _⟩ | ⟨g', cap', cur, h1, hb, hg, hc, hm, hs, ht⟩
  · cases h1
  · injection h1 with e1 e2 e3
    injection e1 with e1
    injection e1 with e1
    subst e1 e3
    refine ⟨by simp [hl], .inr ⟨g, cap, cur.setIfInBounds j (.int .u8 y), rfl, hb, set_block hg _, hc, hm, by simpa using hs, ?_⟩⟩
    rw [Array.toList_setIfInBounds, List.take_set, ht, B8, B8, List.map_set]

set_option maxRecDepth 100000 in
set_option maxHeartbeats 1600000 in
theorem lose_any (B s n g h cap cap' : Nat) (xs : List Int) (fs : List Bool) (w : World) (hd : w.ownsRow B 5 1 (.slice (some ⟨g, 0, none⟩) n cap) n (B8 xs)) (hf : w.ownsRow B 4 1 (.slice (some ⟨h, 0, none⟩) n cap') n (BB fs)) (hn : n ≤ 100000000) (hs : 16 * s ≤ n) :
    Calls Tryz.prog 125 #[.agg #[.slice (some ⟨g, 0, none⟩) n cap, .slice (some ⟨h, 0, none⟩) n cap'], .int .i64 s] w fun x w' => x = .returned (.tuple #[]) ∧ w'.ownsRow B 5 1 (.slice (some ⟨g, 0, none⟩) n cap) n (B8 (loseTo (16 * s) (min (16 * s + 16) n) xs fs)) ∧ Kept (fun k => k = g) w w' := by
  have hgl := (hd.lt g rfl).2
  have hhl := (hf.lt h rfl).2
  have hgh : g ≠ h := fun e => own_ne hd hf (by decide) g rfl (by rw [e]; rfl)
  have hxl : xs.length = n := by have := hd.1; simp at this; omega
  have hfl : fs.length = n := by have := hf.1; simp at this; omega
  have HD := hid hd
  have HF := hid hf
  have HX := hid hxl
  have HL := hid hfl
  clear hd hf hxl hfl
  go_enter Tryz.func125, Tryz.ntmps125
  go_wp2
  go_loopw [5] (fun i wr => ∃ k : Nat, 16 * s ≤ k ∧ k ≤ min (16 * s + 16) n ∧ i = .int .i64 k ∧ wr.ownsRow B 5 1 (.slice (some ⟨g, 0, none⟩) n cap) n (B8 (loseTo (16 * s) k xs fs)) ∧ wr.heap[w.heap.size]? = some (.cells #[.slice (some ⟨g, 0, none⟩) n cap, .slice (some ⟨h, 0, none⟩) n cap'] 109 (0, 0)) ∧ Kept (fun k => k = g) w wr) (fun i _ => n - (intOf i).toNat)
  case atStart =>
    refine ⟨16 * s, Nat.le_refl _, by omega, by go_num, ?_, hp_new _ _, (Kept.refl _ w).alloc _⟩
    rw [loseTo_start]
    exact ownsRow_kept HD.out ((Kept.refl (fun _ => False) w).alloc _) (fun _ _ e => e)
  case round =>
    obtain ⟨k, hk1, hk2, rfl, ho, hb, hkp⟩ := hrel
    have q0 : wr.cell? ⟨w.heap.size, 0, none⟩ = some (.slice (some ⟨g, 0, none⟩) n cap) := by rw [cell_of_row wr _ 0 _ _ _ hb]; rfl
    have q1 : wr.cell? ⟨w.heap.size, 1, none⟩ = some (.slice (some ⟨h, 0, none⟩) n cap') := by rw [cell_of_row wr _ 1 _ _ _ hb]; rfl
    by_cases hlt : k < min (16 * s + 16) n
    · have hkn : k < n := by omega
      have hof := ownsRow_kept HF.out hkp (fun j hj e => by simp [Value.ownBlock] at hj; omega)
      have i1 : (k : Int) < min ((16 : Int) * s + 16) n := by omega
      have i1' : (k : Int) < min ((s : Int) * 16 + 16) n := by omega
      have i2 : (k : Int) < (n : Int) := by omega
      obtain ⟨b, hbk⟩ : ∃ b, fs[k]? = some b := ⟨fs[k]'(by rw [HL.out]; exact hkn), by simp [HL.out, hkn]⟩
      have cf : wr.cell? ⟨h, k, none⟩ = some (.bool b) := by
        have := hof.cells (g := h) rfl k (.bool b) (by simp [BB, hbk])
        rwa [add_lit, Nat.zero_add] at this
      obtain ⟨y, hy⟩ : ∃ y, (loseTo (16 * s) k xs fs)[k]? = some y := ⟨(loseTo (16 * s) k xs fs)[k]'(by rw [loseTo_len, HX.out]; exact hkn), by simp [loseTo_len, HX.out, hkn]⟩
      have cd : wr.cell? ⟨g, k, none⟩ = some (.int .u8 y) := by
        have := ho.cells (g := g) rfl k (.int .u8 y) (by simp [B8, hy])
        rwa [add_lit, Nat.zero_add] at this
      obtain ⟨cs0, hcs0⟩ := owns_block ho g rfl
      have fz := free_of_block (o := k) hcs0
      have HO := hid ho
      have HB := hid hb
      have HK := hid hkp
      have HBK := hid hbk
      clear ho hb hkp hof hcs0 hy hbk
      cases b with
      | true =>
        go_wp2
        go_roundw
        case rel =>
          refine ⟨k + 1, by omega, by omega, by go_num, ?_, ?_, ?_⟩
          · rw [← loseTo_yes _ _ _ _ hk1 HBK.out]
            exact own_set HO.out k 0
          · exact hp_set HB.out (by simp; omega) _
          · exact HK.out.setCell (p := ⟨g, k, none⟩) (fun _ => rfl) _
        case measure => simp [intOf]; omega
      | false =>
        go_wp2
        go_roundw
        case rel =>
          refine ⟨k + 1, by omega, by omega, by go_num, ?_, HB.out, HK.out⟩
          rw [← loseTo_no _ _ _ _ HBK.out]
          exact HO.out
        case measure => simp [intOf]; omega
    · have hke := hid (show k = min (16 * s + 16) n by omega)
      have i3 : ¬ ((k : Int) < min ((s : Int) * 16 + 16) n) := by omega
      have i4 : ¬ ((k : Int) < min ((16 : Int) * s + 16) n) := by omega
      have HO := hid (And.intro ho hkp)
      clear ho hkp hb
      go_wp2
      go_end0
      refine ⟨rfl, ?_, HO.out.2⟩
      rw [← hke.out]
      exact HO.out.1

end Go.Proofs.YtlmompdfombgeaaGreat

namespace Go.Proofs.YtlmompdfombgeaaGreat
open Go.RowKit

theorem drewN_drewN' (w : World) (n m : Nat) : (w.drewN n).drewN m = w.drewN (n + m) := by
  simp [World.drewN, Nat.add_assoc]

theorem take_eq_step (xs ys : List Int) (k : Nat) (ha : k < xs.length) (hb : k < ys.length) (h : xs.take k = ys.take k) : xs.take (k + 1) = ys.take (k + 1) ↔ xs[k] = ys[k] := by
  rw [List.take_succ_eq_append_getElem ha, List.take_succ_eq_append_getElem hb, h]
  constructor
  · intro h2
    have := List.append_cancel_left h2
    injection this
  · intro h2
    rw [h2]

/-- w' is w behind some draws. -/
def DN (w w' : World) : Prop := ∃ nq, w' = w.drewN nq
theorem DN.refl (w : World) : DN w w := ⟨0, rfl⟩
theorem DN.more {w w' : World} (h : DN w w') (n : Nat) : DN w (w'.drewN n) := by
  obtain ⟨k, rfl⟩ := h
  exact ⟨_, drewN_drewN' _ _ _⟩
theorem DN.cell {w w' : World} (h : DN w w') (a : Addr) : w'.cell? a = w.cell? a := by
  obtain ⟨k, rfl⟩ := h
  simp

set_option maxRecDepth 100000 in
set_option maxHeartbeats 800000 in
theorem bytes_any (a b : Value) (xs ys : List Int) (w : World) (ha : Sl w a xs) (hb : Sl w b ys) (hl : xs.length ≤ 1000000000) :
    Calls Tryz.prog 60 #[a, b] w fun x w' => DN w w' ∧ x = .returned (.bool (decide (xs = ys))) := by
  obtain ⟨r, hr⟩ : ∃ r, r = decide (xs = ys) := ⟨_, rfl⟩
  rw [← hr]
  have HR := hid hr
  clear hr
  obtain ⟨ao, acap, rfl, hac, hax⟩ := ha
  obtain ⟨bo, bcap, rfl, hbc, hbx⟩ := hb
  by_cases hlen : xs.length = ys.length
  · have hlen' : ((xs.length : Int) == (ys.length : Int)) = true := by simp [hlen]
    have Hl := hid hlen
    have HA := hid hax
    have HB := hid hbx
    have hbl : ys.length ≤ 1000000000 := by omega
    have hab : (xs.length : Int) ≤ (ys.length : Int) := by omega
    have hba : (ys.length : Int) ≤ (xs.length : Int) := by omega
    clear hlen hax hbx hlen'
    go_enter Tryz.func60, Tryz.ntmps60
    go_wp2
    go_loopw [5] (fun i wr => ∃ (k : Nat), k ≤ xs.length ∧ i = .int .i64 k ∧ DN w wr ∧ Hid (xs.take k = ys.take k)) (fun i _ => xs.length - (intOf i).toNat)
    case atStart => exact ⟨0, Nat.zero_le _, rfl, DN.refl w, hid (by simp)⟩
    case round =>
      obtain ⟨k, hk, rfl, hdn, hpre⟩ := hrel
      by_cases hlt : k < xs.length
      · obtain ⟨ab, aoff, rfl, haj⟩ := HA.out (by intro e; subst e; simp at hlt)
        obtain ⟨bb, boff, rfl, hbj⟩ := HB.out (fun e => by rw [e, List.length_nil] at hab; omega)
        have hlt2 : k < ys.length := by omega
        have ca := (hdn.cell _).trans (haj k xs[k] (by simp [hlt]))
        have cb := (hdn.cell _).trans (hbj k ys[k] (by simp [hlt2]))
        have hst := take_eq_step xs ys k hlt hlt2 hpre.out
        obtain ⟨x, hx⟩ : ∃ x, x = xs[k] := ⟨_, rfl⟩
        obtain ⟨y, hy⟩ : ∃ y, y = ys[k] := ⟨_, rfl⟩
        rw [← hx] at ca hst
        rw [← hy] at cb hst
        have hne2 : x ≠ y → xs ≠ ys := by
          intro h e
          apply h
          rw [hx, hy]
          subst e
          rfl
        have HS : x = y → Hid (xs.take (k + 1) = ys.take (k + 1)) := fun h => hid (hst.2 h)
        have HN := hid hne2
        have i1 : (0 : Int) ≤ (k : Int) := by omega
        have i2 : (k : Int) < (xs.length : Int) := by omega
        have i3 : (k : Int) < (ys.length : Int) := by omega
        clear hx hy hst hne2 haj hbj
        by_cases hxy : x = y
        · have HT := HS hxy
          subst hxy
          clear HS
          go_wp2
          go_quiet (fail)
          go_wp2
          go_roundw
          case rel => first | exact ⟨k + 1, by omega, by go_num, hdn.more _, HT⟩ | ((repeat apply Exists.intro); exact ⟨⟨k + 1, by omega, by go_num, hdn.more _, HT⟩, rfl⟩)
          case measure => simp [intOf]; omega
        · have hxy2 : (x == y) = false := by simpa using hxy
          clear HS
          have Hr := hid (show decide (xs = ys) = false by simpa using HN.out hxy)
          go_wp2
          go_quiet (fail)
          go_wp2
          go_ret
          exact ⟨hdn.more _, by rw [HR.out, Hr.out]; rfl⟩
      · have Hr : Hid (decide (xs = ys) = true) := by
          have := hpre.out
          rw [List.take_of_length_le (by omega), List.take_of_length_le (by omega)] at this
          exact hid (by simpa using this)
        go_wp2
        go_ret
        exact ⟨hdn, by rw [HR.out, Hr.out]; rfl⟩
  · have Hr : Hid (decide (xs = ys) = false) := hid (by
      simp
      intro e; subst e; exact hlen rfl)
    have hne : ((xs.length : Int) == (ys.length : Int)) = false := by simp; omega
    clear hlen hax hbx
    go_enter Tryz.func60, Tryz.ntmps60
    go_wp2
    go_ret
    exact ⟨DN.refl _, by rw [HR.out, Hr.out]; rfl⟩

end Go.Proofs.YtlmompdfombgeaaGreat

namespace Go.Proofs.YtlmompdfombgeaaGreat
open Go.RowKit

/-- make([]byte, n). -/
theorem make_bytes (n : Nat) (hn : n ≤ 1000000000) : ∀ W : World, (Instr.makeSlice 35 (.int .i64 n) (.int .i64 n)).run Tryz.prog W = .ok (.slice (some ⟨W.heap.size, 0, none⟩) n n) (W.alloc (.cells (B8 (List.replicate n 0)).toArray 5)) := by
  intro W
  obtain ⟨i0, hi, hz0, hz1, hz2⟩ := info_parts Tryz.info5
  have h := run_make (P := Tryz.prog) W 35 5 i0 (.int .u8 0) Tryz.underlying35 hi hz0 .i64 .i64 (n : Int) (n : Int) (by omega) (by omega) (by rw [hz2]; omega) (by omega)
  rw [hz1] at h
  have e : madeCells (Value.int .u8 0).cells (((n : Int).toNat) * 1) = (B8 (List.replicate n 0)).toArray := by
    apply Array.ext
    · simp [madeCells, Value.cells, B8]
    · intro i h1 h2
      simp [madeCells, Value.cells, B8, Nat.mod_one]
  rw [e] at h
  simpa using h

/-- Bytes with the marks behind. -/
def rm (bs : List Int) : List Int := bs ++ List.replicate 40 171

theorem rm_len (bs : List Int) : (rm bs).length = bs.length + 40 := by simp [rm]

/-- The first k of l, noughts behind. -/
def part (l : List Int) (k : Nat) : List Int := l.take k ++ List.replicate (l.length - k) 0

theorem part_len (l : List Int) (k : Nat) (h : k ≤ l.length) : (part l k).length = l.length := by simp [part]; omega
theorem part_step (l : List Int) (k : Nat) (h : k < l.length) (y : Int) (hy : l[k]? = some y) : (part l k).set k y = part l (k + 1) := by
  apply List.ext_getElem?
  intro i
  simp only [part, List.getElem?_set, List.length_append, List.length_take, List.length_replicate]
  by_cases e : k = i
  · subst e
    have h1 : k < min k l.length + (l.length - k) := by omega
    rw [if_pos rfl, if_pos h1, List.getElem?_append_left (by simp; omega), List.getElem?_take, if_pos (by omega), hy]
  · rw [if_neg e]
    simp only [List.getElem?_append, List.length_take, List.getElem?_take, List.getElem?_replicate]
    have e1 : min k l.length = k := by omega
    have e2 : min (k + 1) l.length = k + 1 := by omega
    rw [e1, e2]
    by_cases h1 : i < k
    · have h3 : i < k + 1 := by omega
      simp [h1, h3]
    · have h3 : ¬ i < k + 1 := by omega
      have h4 : (i - k < l.length - k) = (i - (k + 1) < l.length - (k + 1)) := propext ⟨fun _ => by omega, fun _ => by omega⟩
      simp [h1, h3, h4]
theorem part_twice (l : List Int) (k : Nat) (y z : Int) : ((part l k).set k y).set k z = (part l k).set k z := by simp
theorem part_full (l : List Int) : part l l.length = l := by simp [part]

theorem Own.set {w : World} {g : Nat} {bs : List Int} (h : Own w g bs) (j : Nat) (y : Int) : Own (w.setCell ⟨g, j, none⟩ (.int .u8 y)) g (bs.set j y) := by
  have := set_block (i := j) h (.int .u8 y)
  unfold Own
  rw [this]
  congr 2
  apply Array.toList_inj.1
  simp [B8, List.map_set]

theorem Own.cell {w : World} {g : Nat} {bs : List Int} (h : Own w g bs) (j : Nat) (y : Int) (hy : bs[j]? = some y) : w.cell? ⟨g, j, none⟩ = some (.int .u8 y) := by
  rw [cell_of_row w g j _ _ _ h]
  simp [B8, hy]

set_option maxRecDepth 100000 in
set_option maxHeartbeats 1600000 in
theorem roomy_any (v : Value) (bs : List Int) (w : World) (h : Sl w v bs) (hl : bs.length ≤ 200000) :
    Calls Tryz.prog 51 #[v] w fun x w' => x = .returned (.slice (some ⟨w.heap.size, 0, none⟩) (bs.length + 40) (bs.length + 40)) ∧ Own w' w.heap.size (rm bs) ∧ Below w.heap.size w w' := by
  obtain ⟨ao, cap, rfl, hc, hx⟩ := h
  have hmk := make_bytes (bs.length + 40) (by omega)
  rw [show ((bs.length + 40 : Nat) : Int) = (bs.length : Int) + 40 by omega] at hmk
  have Hx := hid hx
  clear hx
  go_enter Tryz.func51, Tryz.ntmps51
  go_wp2
  go_loopw [4] (fun i wr => ∃ k : Nat, k ≤ bs.length + 40 ∧ i = .int .i64 k ∧ Own wr w.heap.size (part (rm bs) k) ∧ Below w.heap.size w wr) (fun i _ => bs.length + 40 - (intOf i).toNat)
  case atStart =>
    refine ⟨0, Nat.zero_le _, by go_num, ?_, (Below.refl _ _).alloc (Nat.le_refl _) _⟩
    have := hp_new w (.cells (B8 (List.replicate (bs.length + 40) 0)).toArray 5)
    unfold Own part
    rw [rm_len]
    simpa using this
  case round =>
    obtain ⟨k, hk, rfl, ho, hb⟩ := hrel
    by_cases hlt : k < bs.length + 40
    · obtain ⟨y, hy⟩ : ∃ y, (part (rm bs) k)[k]? = some y := ⟨(part (rm bs) k)[k]'(by rw [part_len _ _ (by rw [rm_len]; omega), rm_len]; exact hlt), by simp [part_len, rm_len, hlt, hk]⟩
      have cd := ho.cell k y hy
      have fz := free_of_block (o := k) ho
      have hgl := hp_lt ho
      have HO := hid ho
      have HB := hid hb
      have i2 : (k : Int) < ((bs.length + 40 : Nat) : Int) := by omega
      have i3 : (k : Int) < (bs.length : Int) + 40 := by omega
      by_cases hin : k < bs.length
      · obtain ⟨ab, aoff, rfl, haj⟩ := Hx.out (by intro e; subst e; simp at hin)
        have cs := haj k bs[k] (by simp [hin])
        have hsl := World.block_lt_of_cell? _ _ cs
        have cs' := (hb.cell hsl).trans cs
        have i4 : (k : Int) < (bs.length : Int) := by omega
        have ht : (rm bs)[k]? = some bs[k] := by
          rw [rm, List.getElem?_append_left hin]
          simp [hin]
        obtain ⟨z, hz⟩ : ∃ z, z = bs[k] := ⟨_, rfl⟩
        rw [← hz] at cs cs' ht
        have HT := hid ht
        have hne : ab ≠ w.heap.size := by simp at hsl; omega
        clear ho hb hy cs haj hz ht
        go_wp2
        go_roundw
        case rel =>
          refine ⟨k + 1, by omega, by go_num, ?_, ?_⟩
          · have := (HO.out.set k 171).set k z
            rw [part_twice, part_step _ _ (by rw [rm_len]; omega) z HT.out] at this
            exact this
          · exact (HB.out.setCell (p := ⟨w.heap.size, k, none⟩) (Nat.le_refl _) _).setCell (p := ⟨w.heap.size, k, none⟩) (Nat.le_refl _) _
        case measure => simp [intOf]; omega
      · have ht : (rm bs)[k]? = some 171 := by
          rw [rm, List.getElem?_append_right (by omega), List.getElem?_replicate, if_pos (by omega)]
        have HT := hid ht
        have i4 : ¬ (k : Int) < (bs.length : Int) := by omega
        clear ho hb hy ht
        go_wp2
        go_roundw
        case rel =>
          refine ⟨k + 1, by omega, by go_num, ?_, ?_⟩
          · have := HO.out.set k 171
            rw [part_step _ _ (by rw [rm_len]; omega) 171 HT.out] at this
            exact this
          · exact HB.out.setCell (p := ⟨w.heap.size, k, none⟩) (Nat.le_refl _) _
        case measure => simp [intOf]; omega
    · have hke := hid (show k = bs.length + 40 by omega)
      have i3 : ¬ ((k : Int) < ((bs.length + 40 : Nat) : Int)) := by omega
      have i4 : ¬ ((k : Int) < (bs.length : Int) + 40) := by omega
      have HO := hid ho
      have HB := hid hb
      clear ho hb
      go_wp2
      go_ret
      refine ⟨rfl, ?_, HB.out⟩
      have := HO.out
      rw [hke.out, ← rm_len, part_full] at this
      exact this


set_option maxRecDepth 100000 in
set_option maxHeartbeats 1600000 in
theorem left_any (v : Value) (bs : List Int) (g : Nat) (w : World) (h : Sl w v bs) (hl : bs.length ≤ 200000) (ho : Own w g (rm bs)) :
    Calls Tryz.prog 68 #[.slice (some ⟨g, 0, none⟩) (bs.length + 40) (bs.length + 40), v] w fun x w' => x = .returned (.bool true) ∧ DN w w' := by
  obtain ⟨ao, cap, rfl, hc, hx⟩ := h
  have Hx := hid hx
  have HO := hid ho
  clear hx ho
  go_enter Tryz.func68, Tryz.ntmps68
  go_wp2
  go_loopw [5] (fun i wr => ∃ k : Nat, k ≤ bs.length + 40 ∧ i = .int .i64 k ∧ DN w wr) (fun i _ => bs.length + 40 - (intOf i).toNat)
  case atStart => exact ⟨0, Nat.zero_le _, by go_num, DN.refl w⟩
  case round =>
    obtain ⟨k, hk, rfl, hdn⟩ := hrel
    by_cases hlt : k < bs.length + 40
    · have i2 : (k : Int) < ((bs.length + 40 : Nat) : Int) := by omega
      have i3 : (k : Int) < (bs.length : Int) + 40 := by omega
      by_cases hin : k < bs.length
      · obtain ⟨ab, aoff, rfl, haj⟩ := Hx.out (by intro e; subst e; simp at hin)
        have cs := (hdn.cell _).trans (haj k bs[k] (by simp [hin]))
        have i4 : (k : Int) < (bs.length : Int) := by omega
        have cd := (hdn.cell _).trans (HO.out.cell k bs[k] (by rw [rm, List.getElem?_append_left hin]; simp [hin]))
        obtain ⟨z, hz⟩ : ∃ z, z = bs[k] := ⟨_, rfl⟩
        rw [← hz] at cs cd
        have i6 : decide (bs.length ≤ k) = false := by simp; omega
        clear haj hz
        go_wp2
        go_quiet (fail)
        go_wp2
        go_roundw
        case rel => first | exact ⟨k + 1, by omega, by go_num, hdn.more _⟩ | exact ⟨k + 1, by omega, by go_num, hdn⟩ | ((repeat apply Exists.intro); exact ⟨⟨k + 1, by omega, by go_num, hdn.more _⟩, rfl⟩)
        case measure => simp [intOf]; omega
      · have cd := (hdn.cell _).trans (HO.out.cell k 171 (by rw [rm, List.getElem?_append_right (by omega), List.getElem?_replicate, if_pos (by omega)]))
        have i4 : ¬ (k : Int) < (bs.length : Int) := by omega
        have i5 : decide (bs.length ≤ k) = true := by simp; omega
        have i6 : decide (k < bs.length) = false := by simp; omega
        go_wp2
        go_quiet (fail)
        go_wp2
        go_roundw
        case rel => first | exact ⟨k + 1, by omega, by go_num, hdn.more _⟩ | exact ⟨k + 1, by omega, by go_num, hdn⟩ | ((repeat apply Exists.intro); exact ⟨⟨k + 1, by omega, by go_num, hdn.more _⟩, rfl⟩)
        case measure => simp [intOf]; omega
    · have i3 : ¬ ((k : Int) < ((bs.length + 40 : Nat) : Int)) := by omega
      have i4 : ¬ ((k : Int) < (bs.length : Int) + 40) := by omega
      go_wp2
      go_ret
      exact ⟨rfl, hdn⟩

end Go.Proofs.YtlmompdfombgeaaGreat
