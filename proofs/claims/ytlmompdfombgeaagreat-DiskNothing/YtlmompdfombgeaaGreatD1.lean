import Derived.Test.YtlmompdfombgeaaGreatF2
import Derived.Test.YtlmompdfombgeaaGreatIter
namespace Go.Proofs.YtlmompdfombgeaaGreat
open Go.RowKit Go.MapKept

/-- A disk's block. -/
def DiskB (w : World) (d : Nat) (room limit : Int) (L : Value) (made : Int) (N F vn : Value) (off : Bool) (st : Int) (k1 : Value) (rd : Int) (k2 : Value) : Prop :=
  w.heap[d]? = some (.cells #[.int .i64 room, .int .i64 limit, L, .int .i64 made, N, F, vn, .bool off, .int .i64 st, k1, .int .i64 rd, k2] 53 (0, 0))

theorem DiskB.free {w : World} {d : Nat} {room limit : Int} {L : Value} {made : Int} {N F vn : Value} {off : Bool} {st : Int} {k1 : Value} {rd : Int} {k2 : Value} (h : DiskB w d room limit L made N F vn off st k1 rd k2) : ∀ o, w.frozen? ⟨d, o, none⟩ = false := fun _o => free_of_block h

theorem DiskB.cells {w : World} {d : Nat} {room limit : Int} {L : Value} {made : Int} {N F vn : Value} {off : Bool} {st : Int} {k1 : Value} {rd : Int} {k2 : Value} (h : DiskB w d room limit L made N F vn off st k1 rd k2) :
    w.cell? ⟨d, 0, none⟩ = some (.int .i64 room) ∧ w.cell? ⟨d, 1, none⟩ = some (.int .i64 limit) ∧ w.cell? ⟨d, 2, none⟩ = some L ∧ w.cell? ⟨d, 3, none⟩ = some (.int .i64 made) ∧ w.cell? ⟨d, 4, none⟩ = some N ∧ w.cell? ⟨d, 5, none⟩ = some F ∧ w.cell? ⟨d, 6, none⟩ = some vn ∧ w.cell? ⟨d, 7, none⟩ = some (.bool off) ∧ w.cell? ⟨d, 8, none⟩ = some (.int .i64 st) ∧ w.cell? ⟨d, 9, none⟩ = some k1 ∧ w.cell? ⟨d, 10, none⟩ = some (.int .i64 rd) ∧ w.cell? ⟨d, 11, none⟩ = some k2 := by
  unfold DiskB at h
  refine ⟨?_, ?_, ?_, ?_, ?_, ?_, ?_, ?_, ?_, ?_, ?_, ?_⟩ <;> (rw [cell_of_row w d _ _ _ _ h]; rfl)

theorem set_block {w : World} {p i : Nat} {c : Array Value} {t : TypeId} (h : w.heap[p]? = some (.cells c t (0, 0))) (v : Value) : (w.setCell ⟨p, i, none⟩ v).heap[p]? = some (.cells (c.setIfInBounds i v) t (0, 0)) := by
  simp [World.setCell, Array.getElem?_modify, h]

theorem puts_cell (w : World) {r : Nat} (o : Obj) (p : Addr) (h : p.block ≠ r) : (puts w r o).cell? p = w.cell? p := World.cell?_of_block (puts_other w o h)
theorem puts_frozen (w : World) {r : Nat} (o : Obj) (p : Addr) (h : p.block ≠ r) : (puts w r o).frozen? p = w.frozen? p := by
  simp [World.frozen?, puts_other w o h]

theorem key_int (n : Int) : IsKey (.int .i64) (.int .i64 n) := by simp [IsKey]
theorem key_str (s : ByteArray) : IsKey .string (.string s) := by simp [IsKey]

/-- What is written lies below a file. -/
theorem FileAt.low {w w' : World} {S : Nat → Prop} {B p : Nat} {safe : List Int} {pend : List Value} {data : List Int} {fresh : List Bool} {peak : Int} {vs vp vd vf : Value} (h : FileAt w B p safe pend data fresh peak vs vp vd vf) (hk : Kept S w w') (hp : B ≤ p) (hS : ∀ k, S k → k < B) : FileAt w' B p safe pend data fresh peak vs vp vd vf := by
  refine h.kept hk (fun e => ?_) (fun k hk2 e => ?_) (fun k hk2 e => ?_) (fun k hk2 e => ?_) (fun k hk2 e => ?_)
  · have := hS _ e; omega
  · have := hS _ e; have := (h.os.lt k hk2).1; omega
  · have := hS _ e; have := (h.op.lt k hk2).1; omega
  · have := hS _ e; have := (h.od.lt k hk2).1; omega
  · have := hS _ e; have := (h.of.lt k hk2).1; omega

set_option maxRecDepth 100000 in
set_option maxHeartbeats 1000000 in
theorem add_any (d : Nat) (v : Value) (bs : List Int) (w : World) (room limit : Int) (L : Nat) (made : Int) (N F vn : Value) (off : Bool) (st : Int) (k1 : Value) (rd : Int) (k2 : Value) (es : Array MapEntry) (c : Nat)
    (hD : DiskB w d room limit (.map (some L)) made N F vn off st k1 rd k2) (hL : w.heap[L]? = some (.map es c)) (hf : Instr.findNow (.int .i64) (.int .i64 (made + 1)) es.toList 0 = some none) (hm0 : 0 ≤ made) (hm : made ≤ 1000000000) (h : Sl w v bs) (hl : bs.length ≤ 1000000000) (hvd : ∀ k, v.ownBlock = some k → k ≠ d) :
    Calls Tryz.prog 79 #[.pointer (some ⟨d, 0, none⟩), v] w fun x w' => x = .returned (.int .i64 (made + 1)) ∧ ∃ p vs vd vf, w.heap.size ≤ p ∧ FileAt w' w.heap.size p bs [] bs (List.replicate bs.length false) bs.length vs (.slice none 0 0) vd vf ∧
      DiskB w' d room limit (.map (some L)) (made + 1) N F vn off st k1 rd k2 ∧ w'.heap[L]? = some (.map (es.push { key := .int .i64 (made + 1), val := .pointer (some ⟨p, 0, none⟩), born := c }) (c + 1)) ∧ Kept (fun k => k = d ∨ k = L) w w' := by
  obtain ⟨c0, c1, c2, c3, c4, c5, c6, c7, c8, c9, c10, c11⟩ := hD.cells
  have ff := hD.free
  have hdL : d ≠ L := hp_ne hD hL (by simp)
  have hdl := hp_lt hD
  have hLl := hp_lt hL
  have hsk : Kept (fun k => k = d ∨ k = L) w (w.setCell ⟨d, 3, none⟩ (.int .i64 (made + 1))) := (Kept.refl _ w).setCell (p := ⟨d, 3, none⟩) (fun _ => .inl rfl) _
  have hs1 : Sl (w.setCell ⟨d, 3, none⟩ (.int .i64 (made + 1))) v bs := h.kept (S := fun k => k = d) ((Kept.refl (fun k => k = d) w).setCell (p := ⟨d, 3, none⟩) (fun _ => rfl) _) (fun k hk e => hvd k hk e)
  have hD1 : DiskB (w.setCell ⟨d, 3, none⟩ (.int .i64 (made + 1))) d room limit (.map (some L)) (made + 1) N F vn off st k1 rd k2 := set_block hD _
  have hL1 : (w.setCell ⟨d, 3, none⟩ (.int .i64 (made + 1))).heap[L]? = some (.map es c) := hp_set hL (by simpa using hdL.symm) _
  have HS := hid hs1
  have HD1 := hid hD1
  have HL1 := hid hL1
  have HK := hid hsk
  have HF := hid hf
  clear hs1 hD1 hL1 hsk hD hL h c0 c1 c4 c5 c6 c7 c8 c9 c10 c11 hf hvd
  go_enter Tryz.func79, Tryz.ntmps79
  go_wp2
  go_region_with (
    go_at_call 121
    refine (newFile_any _ bs _ HS.out.drew hl).mono ?_
    rintro e w1 ⟨p, vs, vd, vf, rfl, hp, hfile, hb⟩
    have hbu := undrew hb
    have hD2 := (show DiskB w1 d room limit (.map (some L)) (made + 1) N F vn off st k1 rd k2 from hp_below HD1.out hbu (hp_lt HD1.out))
    have hL2 := (show w1.heap[L]? = some (.map es c) from hp_below HL1.out hbu (hp_lt HL1.out))
    obtain ⟨-, -, e2, e3, -⟩ := hD2.cells
    have hu := upd_new (w := w1) Tryz.underlying46 Tryz.underlying3 hL2 (key_int (made + 1)) (.pointer (some ⟨p, 0, none⟩)) HF.out
    have e4 := (puts_cell w1 (.map (es.push { key := .int .i64 (made + 1), val := .pointer (some ⟨p, 0, none⟩), born := c }) (c + 1)) ⟨d, 3, none⟩ hdL).trans e3
    have HX := hid (And.intro hp (And.intro hfile (And.intro hbu (And.intro hD2 hL2))))
    clear hp hfile hb hbu hD2 hL2)
  all_goals go_wp2
  all_goals
    go_ret
    obtain ⟨hp, hfile, hbu, hD2, hL2⟩ := HX.out
    have hsz : (w.setCell ⟨d, 3, none⟩ (.int .i64 (made + 1))).drew.heap.size = w.heap.size := by simp [World.setCell, World.drew]
    rw [hsz] at hp hfile hbu
    have hkp : Kept (fun k => k = L) w1 (puts w1 L (.map (es.push { key := .int .i64 (made + 1), val := .pointer (some ⟨p, 0, none⟩), born := c }) (c + 1))) := (Kept.refl (fun k => k = L) w1).puts (fun _ => rfl) _
    refine ⟨rfl, p, vs, vd, vf, hp, hfile.low hkp hp (fun k e => by omega), hp_kept hD2 hkp hdL, puts_same hL2, ?_⟩
    have hbw : Kept (fun _ => False) (w.setCell ⟨d, 3, none⟩ (.int .i64 (made + 1))) w1 := Kept.ofBelow (by simpa [World.setCell] using hbu)
    exact (HK.out.trans hbw (fun _ _ h => h.elim)).trans hkp (fun i _ e => .inr e)

end Go.Proofs.YtlmompdfombgeaaGreat
