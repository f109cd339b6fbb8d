import Derived.Test.YtlmompdfombgeabGreatK10
import Derived.Test.YtlmompdfombgeabGreatK01
import Derived.Test.YtlmompdfombgeabGreatK09
namespace Go.Proofs.YtlmompdfombgeabGreat
open Go.RowKit

/-- The cells of element k. -/
theorem Rf.elem {w : World} {α : Type} {f : α → List Value} {m : Nat} {v : Value} {xs : List α} (hf : ∀ x, (f x).length = m) (hm : 0 < m) (h : Rf w m v xs.length (xs.flatMap f)) (k : Nat) (hk : k < xs.length) :
    ∃ b off cap, v = .slice (some ⟨b, off, none⟩) xs.length cap ∧ xs.length ≤ cap ∧ cap ≤ maxLen ∧ ∀ c u, (f xs[k])[c]? = some u → w.cell? ⟨b, off + k * m + c, none⟩ = some u := by
  obtain ⟨b, off, cap, rfl, h1, h2, h3⟩ := h.lits (by omega) hm
  refine ⟨b, off, cap, rfl, h1, h2, fun c u hu => ?_⟩
  have hc : c < m := by
    rcases Nat.lt_or_ge c m with h | h
    · exact h
    · rw [List.getElem?_eq_none (by rw [hf]; exact h)] at hu
      cases hu
  have := h3 (k * m + c) u (by rw [flat_get f m hf _ _ _ hc]; simp [hk, hu])
  rwa [← Nat.add_assoc] at this

/-- A step that is not too much. -/
def Sp.small (x : Sp) : Prop := x.data.length ≤ 200000 ∧ x.name.size ≤ 200000 ∧ x.to.size ≤ 200000 ∧ x.fs.length ≤ 300 ∧ x.fr.length ≤ 300 ∧ x.pk.length ≤ 300 ∧ ∀ p ∈ x.pk, p.lost.length ≤ 300

/-- What 'much' tells. -/
def MuchPost (xs : List Sp) (x : Ending) : Prop := ∃ r, x = .returned (.bool r) ∧ (r = false → xs.length ≤ 200 ∧ ∀ x ∈ xs, x.small)

theorem muchTrue (xs : List Sp) : MuchPost xs (.returned (.bool true)) := ⟨true, rfl, fun h => by cases h⟩

set_option maxRecDepth 100000 in
set_option maxHeartbeats 1600000 in
theorem much_any (v : Value) (xs : List Sp) (w : World) (h : Sps w v xs) :
    Calls Tryz.prog 7 #[v] w fun x w' => Below w.heap.size w w' ∧ MuchPost xs x := by
  obtain ⟨ao, cap, rfl, hc, hcm⟩ := h.1.shape
  unfold maxLen at hcm
  have HS := hid h
  clear h
  by_cases h1 : 200 < xs.length
  · go_enter Tryz.func7, Tryz.ntmps7
    go_wp2
    go_ret
    exact ⟨Below.refl _ _, muchTrue xs⟩
  · go_enter Tryz.func7, Tryz.ntmps7
    go_wp2
    go_loopw [3, 4] (fun n i wr => ∃ (k t : Nat), k ≤ xs.length ∧ i = .int .i64 k ∧ n = .int .i64 t ∧ t ≤ k * 600000 ∧ Hid (Below w.heap.size w wr) ∧ Hid (∀ j x, j < k → xs[j]? = some x → x.small)) (fun _ i _ => xs.length - (intOf i).toNat)
    case atStart => exact ⟨0, 0, Nat.zero_le _, rfl, rfl, by omega, hid (Below.refl _ _), hid (fun j x h => by omega)⟩
    case round =>
      obtain ⟨k, t, hk, rfl, rfl, ht, HB, HP⟩ := hrel
      by_cases hlt : k < xs.length
      · obtain ⟨b, off, cap', e, -, -, hcell⟩ := Rf.elem (f := scs) (fun _ => rfl) (by omega) HS.out.1 k hlt
        injection e with e1 e2 e3
        subst e1 e3
        clear e2
        have hok := HS.out.2 xs[k] (List.getElem_mem hlt)
        obtain ⟨x, hxe⟩ : ∃ x, x = xs[k] := ⟨_, rfl⟩
        rw [← hxe] at hcell hok
        have HX := hid hxe
        obtain ⟨kind, name, to, dv, data, nn, sv, fs, rv, fr, pn, fv, pk⟩ := x
        obtain ⟨-, -, -, hn1, hn2, hdt, -, hfs, -, hfr, -, hpk, hpo⟩ := hok
        obtain ⟨a1, q1, e1, d1, d2⟩ := hdt.shape
        obtain ⟨a2, q2, e2, d3, d4⟩ := hfs.shape
        obtain ⟨a3, q3, e3, d5, d6⟩ := hfr.shape
        obtain ⟨a4, q4, e4, d7, d8⟩ := hpk.shape
        dsimp only at e1 e2 e3 e4 hn1 hn2
        subst e1 e2 e3 e4
        have hb := HB.out
        have cc : ∀ c u, (scs ⟨kind, name, to, .slice a1 data.length q1, data, nn, .slice a2 fs.length q2, fs, .slice a3 fr.length q3, fr, pn, .slice a4 pk.length q4, pk⟩)[c]? = some u → wr.cell? ⟨b, off + k * 9 + c, none⟩ = some u := fun c u hu => (hb.cell (World.block_lt_of_cell? _ _ (hcell c u hu))).trans (hcell c u hu)
        have c0 : wr.cell? ⟨b, off + k * 9, none⟩ = _ := cc 0 _ rfl
        have c1 := cc 1 _ rfl
        have c2 := cc 2 _ rfl
        have c3 := cc 3 _ rfl
        have c4 := cc 4 _ rfl
        have c5 := cc 5 _ rfl
        have c6 := cc 6 _ rfl
        have c7 := cc 7 _ rfl
        have c8 := cc 8 _ rfl
        dsimp only at d1 d2 d3 d4 d5 d6 d7 d8 hpk hpo
        unfold maxLen at d2 d4 d6 d8 hn1 hn2
        have HK := hid (And.intro hpk hpo)
        clear hcell hdt hfs hfr hpk hpo hb cc hxe

        by_cases z1 : 200000 < data.length
        · go_wp2
          go_ret
          exact ⟨HB.out.alloc (HB.out.size) _, muchTrue xs⟩
        by_cases z2 : 200000 < name.size
        · go_wp2
          go_ret
          exact ⟨HB.out.alloc (HB.out.size) _, muchTrue xs⟩
        by_cases z3 : 200000 < to.size
        · go_wp2
          go_ret
          exact ⟨HB.out.alloc (HB.out.size) _, muchTrue xs⟩
        by_cases z4 : 300 < fs.length
        · go_wp2
          go_ret
          exact ⟨HB.out.alloc (HB.out.size) _, muchTrue xs⟩
        by_cases z5 : 300 < fr.length
        · go_wp2
          go_ret
          exact ⟨HB.out.alloc (HB.out.size) _, muchTrue xs⟩
        by_cases z6 : 300 < pk.length
        · go_wp2
          go_ret
          exact ⟨HB.out.alloc (HB.out.size) _, muchTrue xs⟩
        go_wp2
        go_loop [6] (fun i => ∃ (j : Nat), j ≤ pk.length ∧ i = .int .i64 j ∧ Hid (∀ i p, i < j → pk[i]? = some p → p.lost.length ≤ 300)) (fun i => pk.length - (intOf i).toNat)
        case atStart => exact ⟨0, Nat.zero_le _, rfl, hid (fun j x h => by omega)⟩
        case round =>
          obtain ⟨j, hj, rfl, HJ⟩ := hrel
          by_cases hjl : j < pk.length
          · obtain ⟨b2, off2, cap2, e, -, -, hcell⟩ := Rf.elem (f := pcs) (fun _ => rfl) (by omega) HK.out.1 j hjl
            injection e with e1 e2 e3
            subst e1 e3
            clear e2
            have hpok := HK.out.2 pk[j] (List.getElem_mem hjl)
            obtain ⟨y, hye⟩ : ∃ y, y = pk[j] := ⟨_, rfl⟩
            rw [← hye] at hcell hpok
            obtain ⟨dn, lv, lost⟩ := y
            obtain ⟨-, hln, -, -⟩ := hpok
            obtain ⟨a5, q5, e5, d9, d10⟩ := hln.shape
            dsimp only at e5
            subst e5
            have y1 := hcell 1 _ rfl
            have hb1 := HB.out.alloc (HB.out.size) (.cells #[.int .i64 kind, .string name, .string to, .slice a1 data.length q1, .int .i64 nn, .slice a2 fs.length q2, .slice a3 fr.length q3, .int .i64 pn, .slice (some ⟨b2, off2, none⟩) pk.length q4] 32)
            have y2 := (hb1.cell (World.block_lt_of_cell? _ _ y1)).trans y1
            have HY := hid hye
            dsimp only at d9 d10
            unfold maxLen at d10
            clear hcell hln y1 hb1 hye
            by_cases z7 : 300 < lost.length
            · go_wp2
              go_ret
              exact ⟨HB.out.alloc (HB.out.size) _, muchTrue xs⟩
            · go_wp2
              go_round
              case rel =>
                refine ⟨j + 1, by omega, by go_num, hid (fun i p hi hp => ?_)⟩
                by_cases e : i = j
                · subst e
                  simp [hjl] at hp
                  rw [← HY.out] at hp
                  rw [← hp]
                  exact (by omega : lost.length ≤ 300)
                · exact HJ.out i p (by omega) hp
              case measure => simp [intOf]; omega
          · go_wp2
            go_roundw
            case rel =>
              refine ⟨k + 1, t + data.length + name.size + to.size, by omega, by go_num, by go_num, by omega, hid (HB.out.alloc HB.out.size _), hid (fun i p hi hp => ?_)⟩
              by_cases e : i = k
              · subst e
                simp [hlt] at hp
                rw [← HX.out] at hp
                rw [← hp]
                refine ⟨by dsimp only; omega, by dsimp only; omega, by dsimp only; omega, by dsimp only; omega, by dsimp only; omega, by dsimp only; omega, fun p hp2 => ?_⟩
                obtain ⟨i2, hi2, rfl⟩ := List.getElem_of_mem hp2
                dsimp only at hi2
                exact HJ.out i2 _ (by omega) (by simp [hi2])
              · exact HP.out i p (by omega) hp
            case measure => simp [intOf]; omega
      · obtain rfl : k = xs.length := by omega
        go_wp2
        go_ret
        refine ⟨HB.out, _, rfl, ?_⟩
        intro h
        refine ⟨by omega, fun x hx => ?_⟩
        obtain ⟨i, hi, rfl⟩ := List.getElem_of_mem hx
        exact HP.out i _ hi (by simp [hi])

end Go.Proofs.YtlmompdfombgeabGreat

namespace Go.Proofs.YtlmompdfombgeabGreat
open Go.RowKit

theorem drewN_drewN' (w : World) (n m : Nat) : (w.drewN n).drewN m = w.drewN (n + m) := by
  simp [World.drewN, Nat.add_assoc]

theorem take_eq_step (xs ys : List Int) (k : Nat) (ha : k < xs.length) (hb : k < ys.length) (h : xs.take k = ys.take k) : xs.take (k + 1) = ys.take (k + 1) ↔ xs[k] = ys[k] := by
  rw [List.take_succ_eq_append_getElem ha, List.take_succ_eq_append_getElem hb, h]
  constructor
  · intro h2
    have := List.append_cancel_left h2
    injection this
  · intro h2
    rw [h2]

/-- w' is w behind some draws. -/
def DN (w w' : World) : Prop := ∃ nq, w' = w.drewN nq
theorem DN.refl (w : World) : DN w w := ⟨0, rfl⟩
theorem DN.more {w w' : World} (h : DN w w') (n : Nat) : DN w (w'.drewN n) := by
  obtain ⟨k, rfl⟩ := h
  exact ⟨_, drewN_drewN' _ _ _⟩
theorem DN.cell {w w' : World} (h : DN w w') (a : Addr) : w'.cell? a = w.cell? a := by
  obtain ⟨k, rfl⟩ := h
  simp

set_option maxRecDepth 100000 in
set_option maxHeartbeats 800000 in
theorem bytes_any (a b : Value) (xs ys : List Int) (w : World) (ha : Sl w a xs) (hb : Sl w b ys) (hl : xs.length ≤ 1000000000) :
    Calls Tryz.prog 31 #[a, b] w fun x w' => DN w w' ∧ x = .returned (.bool (decide (xs = ys))) := by
  obtain ⟨r, hr⟩ : ∃ r, r = decide (xs = ys) := ⟨_, rfl⟩
  rw [← hr]
  have HR := hid hr
  clear hr
  obtain ⟨ao, acap, rfl, hac, hax⟩ := ha
  obtain ⟨bo, bcap, rfl, hbc, hbx⟩ := hb
  by_cases hlen : xs.length = ys.length
  · have hlen' : ((xs.length : Int) == (ys.length : Int)) = true := by simp [hlen]
    have Hl := hid hlen
    have HA := hid hax
    have HB := hid hbx
    have hbl : ys.length ≤ 1000000000 := by omega
    have hab : (xs.length : Int) ≤ (ys.length : Int) := by omega
    have hba : (ys.length : Int) ≤ (xs.length : Int) := by omega
    clear hlen hax hbx hlen'
    go_enter Tryz.func31, Tryz.ntmps31
    go_wp2
    go_loopw [5] (fun i wr => ∃ (k : Nat), k ≤ xs.length ∧ i = .int .i64 k ∧ DN w wr ∧ Hid (xs.take k = ys.take k)) (fun i _ => xs.length - (intOf i).toNat)
    case atStart => exact ⟨0, Nat.zero_le _, rfl, DN.refl w, hid (by simp)⟩
    case round =>
      obtain ⟨k, hk, rfl, hdn, hpre⟩ := hrel
      by_cases hlt : k < xs.length
      · obtain ⟨ab, aoff, rfl, haj⟩ := HA.out (by intro e; subst e; simp at hlt)
        obtain ⟨bb, boff, rfl, hbj⟩ := HB.out (fun e => by rw [e, List.length_nil] at hab; omega)
        have hlt2 : k < ys.length := by omega
        have ca := (hdn.cell _).trans (haj k xs[k] (by simp [hlt]))
        have cb := (hdn.cell _).trans (hbj k ys[k] (by simp [hlt2]))
        have hst := take_eq_step xs ys k hlt hlt2 hpre.out
        obtain ⟨x, hx⟩ : ∃ x, x = xs[k] := ⟨_, rfl⟩
        obtain ⟨y, hy⟩ : ∃ y, y = ys[k] := ⟨_, rfl⟩
        rw [← hx] at ca hst
        rw [← hy] at cb hst
        have hne2 : x ≠ y → xs ≠ ys := by
          intro h e
          apply h
          rw [hx, hy]
          subst e
          rfl
        have HS : x = y → Hid (xs.take (k + 1) = ys.take (k + 1)) := fun h => hid (hst.2 h)
        have HN := hid hne2
        have i1 : (0 : Int) ≤ (k : Int) := by omega
        have i2 : (k : Int) < (xs.length : Int) := by omega
        have i3 : (k : Int) < (ys.length : Int) := by omega
        clear hx hy hst hne2 haj hbj
        by_cases hxy : x = y
        · have HT := HS hxy
          subst hxy
          clear HS
          go_wp2
          go_quiet (fail)
          go_wp2
          go_roundw
          case rel => first | exact ⟨k + 1, by omega, by go_num, hdn.more _, HT⟩ | ((repeat apply Exists.intro); exact ⟨⟨k + 1, by omega, by go_num, hdn.more _, HT⟩, rfl⟩)
          case measure => simp [intOf]; omega
        · have hxy2 : (x == y) = false := by simpa using hxy
          clear HS
          have Hr := hid (show decide (xs = ys) = false by simpa using HN.out hxy)
          go_wp2
          go_quiet (fail)
          go_wp2
          go_ret
          exact ⟨hdn.more _, by rw [HR.out, Hr.out]; rfl⟩
      · have Hr : Hid (decide (xs = ys) = true) := by
          have := hpre.out
          rw [List.take_of_length_le (by omega), List.take_of_length_le (by omega)] at this
          exact hid (by simpa using this)
        go_wp2
        go_ret
        exact ⟨hdn, by rw [HR.out, Hr.out]; rfl⟩
  · have Hr : Hid (decide (xs = ys) = false) := hid (by
      simp
      intro e; subst e; exact hlen rfl)
    have hne : ((xs.length : Int) == (ys.length : Int)) = false := by simp; omega
    clear hlen hax hbx
    go_enter Tryz.func31, Tryz.ntmps31
    go_wp2
    go_ret
    exact ⟨DN.refl _, by rw [HR.out, Hr.out]; rfl⟩

end Go.Proofs.YtlmompdfombgeabGreat

namespace Go.Proofs.YtlmompdfombgeabGreat
open Go.RowKit

/-- make([]byte, n). -/
theorem make_bytes (n : Nat) (hn : n ≤ 1000000000) : ∀ W : World, (Instr.makeSlice 27 (.int .i64 n) (.int .i64 n)).run Tryz.prog W = .ok (.slice (some ⟨W.heap.size, 0, none⟩) n n) (W.alloc (.cells (B8 (List.replicate n 0)).toArray 5)) := by
  intro W
  obtain ⟨i0, hi, hz0, hz1, hz2⟩ := info_parts Tryz.info5
  have h := run_make (P := Tryz.prog) W 27 5 i0 (.int .u8 0) Tryz.underlying27 hi hz0 .i64 .i64 (n : Int) (n : Int) (by omega) (by omega) (by rw [hz2]; omega) (by omega)
  rw [hz1] at h
  have e : madeCells (Value.int .u8 0).cells (((n : Int).toNat) * 1) = (B8 (List.replicate n 0)).toArray := by
    apply Array.ext
    · simp [madeCells, Value.cells, B8]
    · intro i h1 h2
      simp [madeCells, Value.cells, B8, Nat.mod_one]
  rw [e] at h
  simpa using h

/-- Bytes with the marks behind. -/
def rm (bs : List Int) : List Int := bs ++ List.replicate 40 134

theorem rm_len (bs : List Int) : (rm bs).length = bs.length + 40 := by simp [rm]

/-- The first k of l, noughts behind. -/
def part (l : List Int) (k : Nat) : List Int := l.take k ++ List.replicate (l.length - k) 0

theorem part_len (l : List Int) (k : Nat) (h : k ≤ l.length) : (part l k).length = l.length := by simp [part]; omega
theorem part_step (l : List Int) (k : Nat) (h : k < l.length) (y : Int) (hy : l[k]? = some y) : (part l k).set k y = part l (k + 1) := by
  apply List.ext_getElem?
  intro i
  simp only [part, List.getElem?_set, List.length_append, List.length_take, List.length_replicate]
  by_cases e : k = i
  · subst e
    have h1 : k < min k l.length + (l.length - k) := by omega
    rw [if_pos rfl, if_pos h1, List.getElem?_append_left (by simp; omega), List.getElem?_take, if_pos (by omega), hy]
  · rw [if_neg e]
    simp only [List.getElem?_append, List.length_take, List.getElem?_take, List.getElem?_replicate]
    have e1 : min k l.length = k := by omega
    have e2 : min (k + 1) l.length = k + 1 := by omega
    rw [e1, e2]
    by_cases h1 : i < k
    · have h3 : i < k + 1 := by omega
      simp [h1, h3]
    · have h3 : ¬ i < k + 1 := by omega
      have h4 : (i - k < l.length - k) = (i - (k + 1) < l.length - (k + 1)) := propext ⟨fun _ => by omega, fun _ => by omega⟩
      simp [h1, h3, h4]
theorem part_twice (l : List Int) (k : Nat) (y z : Int) : ((part l k).set k y).set k z = (part l k).set k z := by simp
theorem part_full (l : List Int) : part l l.length = l := by simp [part]

theorem Own.set {w : World} {g : Nat} {bs : List Int} (h : Own w g bs) (j : Nat) (y : Int) : Own (w.setCell ⟨g, j, none⟩ (.int .u8 y)) g (bs.set j y) := by
  have := set_block (i := j) h (.int .u8 y)
  unfold Own
  rw [this]
  congr 2
  apply Array.toList_inj.1
  simp [B8, List.map_set]

theorem Own.cell {w : World} {g : Nat} {bs : List Int} (h : Own w g bs) (j : Nat) (y : Int) (hy : bs[j]? = some y) : w.cell? ⟨g, j, none⟩ = some (.int .u8 y) := by
  rw [cell_of_row w g j _ _ _ h]
  simp [B8, hy]

end Go.Proofs.YtlmompdfombgeabGreat
