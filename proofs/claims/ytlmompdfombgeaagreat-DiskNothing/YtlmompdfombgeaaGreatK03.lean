import Derived.Test.YtlmompdfombgeaaGreatK02
namespace Go.Proofs.YtlmompdfombgeaaGreat
open Go.RowKit

/-- A number of 64 binary digits. -/
def I64 (x : Int) : Prop := -9223372036854775808 ≤ x ∧ x < 9223372036854775808

/-- A fault's cells. -/
def fcs (x : Int × Int) : List Value := [.int .i64 x.1, .int .i64 x.2]
/-- A list of faults. -/
def Fl (w : World) (v : Value) (fs : List (Int × Int)) : Prop := Rf w 2 v fs.length (fs.flatMap fcs)

/-- A list of numbers. -/
def Ln (w : World) (v : Value) (ls : List Int) : Prop := Rf w 1 v ls.length (ls.flatMap fun x => [.int .i64 x])

/-- What is picked of a file. -/
structure Pk where
  done : Int
  lv : Value
  lost : List Int
instance : Inhabited Pk := ⟨⟨0, .slice none 0 0, []⟩⟩
def Pk.ok (w : World) (p : Pk) : Prop := I64 p.done ∧ Ln w p.lv p.lost ∧ (∀ x ∈ p.lost, I64 x) ∧ p.lv.oneCell' = true
def pcs (x : Pk) : List Value := [.int .i64 x.done, x.lv]
/-- A list of picks. -/
def Pks (w : World) (v : Value) (ps : List Pk) : Prop := Rf w 2 v ps.length (ps.flatMap pcs) ∧ ∀ p ∈ ps, p.ok w

/-- A step. -/
structure Sp where
  kind : Int
  name : ByteArray
  to : ByteArray
  dv : Value
  data : List Int
  n : Int
  sv : Value
  fs : List (Int × Int)
  rv : Value
  fr : List (Int × Int)
  pn : Int
  fv : Value
  pk : List Pk
instance : Inhabited Sp := ⟨⟨0, ByteArray.empty, ByteArray.empty, .slice none 0 0, [], 0, .slice none 0 0, [], .slice none 0 0, [], 0, .slice none 0 0, []⟩⟩

def I2 (x : Int × Int) : Prop := I64 x.1 ∧ I64 x.2

structure Sp.ok (w : World) (x : Sp) : Prop where
  kind : I64 x.kind
  n : I64 x.n
  pn : I64 x.pn
  name : x.name.size ≤ maxLen
  to : x.to.size ≤ maxLen
  dt : Rf w 1 x.dv x.data.length (x.data.flatMap fun y => [.int .u8 y])
  oct : ∀ y ∈ x.data, 0 ≤ y ∧ y < 256
  fs : Fl w x.sv x.fs
  fi : ∀ y ∈ x.fs, I2 y
  fr : Fl w x.rv x.fr
  ri : ∀ y ∈ x.fr, I2 y
  pk : Pks w x.fv x.pk

def scs (x : Sp) : List Value := [.int .i64 x.kind, .string x.name, .string x.to, x.dv, .int .i64 x.n, x.sv, x.rv, .int .i64 x.pn, x.fv]

/-- A script. -/
def Sps (w : World) (v : Value) (xs : List Sp) : Prop := Rf w 9 v xs.length (xs.flatMap scs) ∧ ∀ x ∈ xs, x.ok w

theorem Rf.one {w : World} {m : Nat} {v : Value} {n : Nat} {cs : List Value} (h : Rf w m v n cs) : v.oneCell' = true := by
  obtain ⟨ao, cap, rfl, _⟩ := h.shape
  rfl

theorem Tryz.cells5 : Tryz.prog.cellsOf 5 = 1 := by kernel_rfl
theorem Tryz.cells3 : Tryz.prog.cellsOf 3 = 1 := by kernel_rfl
theorem Tryz.cells9 : Tryz.prog.cellsOf 9 = 1 := by kernel_rfl
theorem Tryz.cells35 : Tryz.prog.cellsOf 35 = 1 := by kernel_rfl
theorem Tryz.cells36 : Tryz.prog.cellsOf 36 = 1 := by kernel_rfl
theorem Tryz.cells38 : Tryz.prog.cellsOf 38 = 2 := by kernel_rfl
theorem Tryz.cells39 : Tryz.prog.cellsOf 39 = 1 := by kernel_rfl
theorem Tryz.cells41 : Tryz.prog.cellsOf 41 = 2 := by kernel_rfl
theorem Tryz.cells43 : Tryz.prog.cellsOf 43 = 9 := by kernel_rfl
theorem Tryz.cells64 : Tryz.prog.cellsOf 64 = 1 := by kernel_rfl
theorem Tryz.cells91 : Tryz.prog.cellsOf 91 = 2 := by kernel_rfl
theorem Tryz.cells154 : Tryz.prog.cellsOf 154 = 2 := by kernel_rfl

section
variable {H : Type} {enc : TypeId × Value → H} {W : World} {base : Nat} {held : Bool} {fuel : Nat} {cs : List Value} {x : DataW H × List MemPlace}

theorem int_of_trod (h : DataW.trod enc Tryz.prog W base (fun _ => true) held fuel 3 cs = some x) : ∃ y : Int, I64 y ∧ cs = [.int .i64 y] := by
  obtain ⟨a0, e0, _, w0⟩ := DataW.trod_int Tryz.underlying3 h
  have b := bounds_i64 w0
  exact ⟨a0, ⟨b.1, by omega⟩, e0⟩

theorem byte_of_trod (h : DataW.trod enc Tryz.prog W base (fun _ => true) held fuel 5 cs = some x) : ∃ y : Int, (0 ≤ y ∧ y < 256) ∧ cs = [.int .u8 y] := by
  obtain ⟨a0, e0, _, w0⟩ := DataW.trod_int Tryz.underlying5 h
  have b := bounds_u8 w0
  exact ⟨a0, ⟨b.1, by omega⟩, e0⟩

theorem str_of_trod (h : DataW.trod enc Tryz.prog W base (fun _ => true) held fuel 9 cs = some x) : ∃ y : ByteArray, y.size ≤ maxLen ∧ cs = [.string y] := by
  obtain ⟨s, e4, _, w4⟩ := DataW.trod_string Tryz.underlying9 h
  exact ⟨s, w4, e4⟩

set_option maxRecDepth 100000 in
theorem fault_of_trod (h : DataW.trod enc Tryz.prog W base (fun _ => true) held fuel 154 cs = some x) : ∃ y : Int × Int, I2 y ∧ cs = fcs y := by
  obtain ⟨xs, n, _, rfl, hl, hlen, hf⟩ := DataW.trod_struct Tryz.underlying154 h
  rw [Tryz.cells154] at hl
  match cs, hl, xs, hlen with
  | [c0, c1], _, [y0, y1], _ =>
    have f0 : DataW.trod enc Tryz.prog W base (fun _ => true) held n 3 (([c0, c1].drop 0).take (Tryz.prog.cellsOf 3)) = some y0 := hf 0 _ rfl
    have f1 : DataW.trod enc Tryz.prog W base (fun _ => true) held n 3 (([c0, c1].drop 1).take (Tryz.prog.cellsOf 3)) = some y1 := hf 1 _ rfl
    rw [Tryz.cells3] at f0 f1
    obtain ⟨a0, b0, e0⟩ := int_of_trod f0
    obtain ⟨a1, b1, e1⟩ := int_of_trod f1
    simp at e0 e1
    subst e0 e1
    exact ⟨(a0, a1), ⟨b0, b1⟩, rfl⟩

theorem faults_of_trod (h : DataW.trod enc Tryz.prog W base (fun _ => true) held fuel 36 cs = some x) : ∃ v ys, cs = [v] ∧ Fl W v ys ∧ ∀ y ∈ ys, I2 y :=
  rf_of_trod fcs I2 2 (fun _ => rfl) (fun y u hu => by simp [fcs] at hu; rcases hu with rfl | rfl <;> rfl) Tryz.underlying36 Tryz.cells154 (fun _ _ _ h => fault_of_trod h) h

theorem bytes_of_trod (h : DataW.trod enc Tryz.prog W base (fun _ => true) held fuel 35 cs = some x) : ∃ (v : Value) (ys : List Int), cs = [v] ∧ Rf W 1 v ys.length (ys.flatMap fun y => [.int .u8 y]) ∧ ∀ y ∈ ys, 0 ≤ y ∧ y < 256 :=
  rf_of_trod (fun y : Int => [.int .u8 y]) (fun y => 0 ≤ y ∧ y < 256) 1 (fun _ => rfl) (fun y u hu => by simp at hu; subst hu; rfl) Tryz.underlying35 Tryz.cells5 (fun _ _ _ h => byte_of_trod h) h

theorem ints_of_trod (h : DataW.trod enc Tryz.prog W base (fun _ => true) held fuel 64 cs = some x) : ∃ v ys, cs = [v] ∧ Ln W v ys ∧ ∀ y ∈ ys, I64 y :=
  rf_of_trod (fun y : Int => [.int .i64 y]) I64 1 (fun _ => rfl) (fun y u hu => by simp at hu; subst hu; rfl) Tryz.underlying64 Tryz.cells3 (fun _ _ _ h => int_of_trod h) h

set_option maxRecDepth 100000 in
theorem pick_of_trod (h : DataW.trod enc Tryz.prog W base (fun _ => true) held fuel 91 cs = some x) : ∃ y : Pk, y.ok W ∧ cs = pcs y := by
  obtain ⟨xs, n, _, rfl, hl, hlen, hf⟩ := DataW.trod_struct Tryz.underlying91 h
  rw [Tryz.cells91] at hl
  match cs, hl, xs, hlen with
  | [c0, c1], _, [y0, y1], _ =>
    have f0 : DataW.trod enc Tryz.prog W base (fun _ => true) held n 3 (([c0, c1].drop 0).take (Tryz.prog.cellsOf 3)) = some y0 := hf 0 _ rfl
    have f1 : DataW.trod enc Tryz.prog W base (fun _ => true) held n 64 (([c0, c1].drop 1).take (Tryz.prog.cellsOf 64)) = some y1 := hf 1 _ rfl
    rw [Tryz.cells3] at f0
    rw [Tryz.cells64] at f1
    obtain ⟨a0, b0, e0⟩ := int_of_trod f0
    obtain ⟨v1, l1, e1, r1, b1⟩ := ints_of_trod f1
    simp at e0 e1
    subst e0 e1
    exact ⟨⟨a0, c1, l1⟩, ⟨b0, r1, b1, Rf.one r1⟩, rfl⟩

theorem picks_of_trod (h : DataW.trod enc Tryz.prog W base (fun _ => true) held fuel 39 cs = some x) : ∃ v ys, cs = [v] ∧ Pks W v ys := by
  obtain ⟨v, ys, e, h1, h2⟩ := rf_of_trod (fun p : Pk => if p.lv.oneCell' = true then pcs p else [.int .i64 0, .int .i64 0]) (fun p : Pk => p.ok W) 2 (fun y => by split <;> rfl)
    (fun y u hu => by
      split at hu
      · rename_i hy; simp [pcs] at hu; rcases hu with rfl | rfl; rfl; exact hy
      · simp at hu; subst hu; rfl) Tryz.underlying39 Tryz.cells91 (fun _ _ _ h => by obtain ⟨y, a, b⟩ := pick_of_trod h; exact ⟨y, a, by rw [if_pos a.2.2.2]; exact b⟩) h
  refine ⟨v, ys, e, ?_, h2⟩
  have : ys.flatMap (fun p : Pk => if p.lv.oneCell' = true then pcs p else [.int .i64 0, .int .i64 0]) = ys.flatMap pcs := by
    clear h1 e
    induction ys with
    | nil => rfl
    | cons y ys ih => rw [List.flatMap_cons, List.flatMap_cons, ih (fun p hp => h2 p (List.mem_cons_of_mem _ hp)), if_pos (h2 y (List.mem_cons_self ..)).2.2.2]
  rw [this] at h1
  exact h1

set_option maxRecDepth 100000 in
theorem step_of_trod (h : DataW.trod enc Tryz.prog W base (fun _ => true) held fuel 43 cs = some x) : ∃ y : Sp, y.ok W ∧ cs = scs y := by
  obtain ⟨xs, n, _, rfl, hl, hlen, hf⟩ := DataW.trod_struct Tryz.underlying43 h
  rw [Tryz.cells43] at hl
  match cs, hl, xs, hlen with
  | [c0, c1, c2, c3, c4, c5, c6, c7, c8], _, [y0, y1, y2, y3, y4, y5, y6], _ =>
    have f0 : DataW.trod enc Tryz.prog W base (fun _ => true) held n 3 (([c0, c1, c2, c3, c4, c5, c6, c7, c8].drop 0).take (Tryz.prog.cellsOf 3)) = some y0 := hf 0 _ rfl
    have f1 : DataW.trod enc Tryz.prog W base (fun _ => true) held n 9 (([c0, c1, c2, c3, c4, c5, c6, c7, c8].drop 1).take (Tryz.prog.cellsOf 9)) = some y1 := hf 1 _ rfl
    have f2 : DataW.trod enc Tryz.prog W base (fun _ => true) held n 9 (([c0, c1, c2, c3, c4, c5, c6, c7, c8].drop 2).take (Tryz.prog.cellsOf 9)) = some y2 := hf 2 _ rfl
    have f3 : DataW.trod enc Tryz.prog W base (fun _ => true) held n 35 (([c0, c1, c2, c3, c4, c5, c6, c7, c8].drop 3).take (Tryz.prog.cellsOf 35)) = some y3 := hf 3 _ rfl
    have f4 : DataW.trod enc Tryz.prog W base (fun _ => true) held n 3 (([c0, c1, c2, c3, c4, c5, c6, c7, c8].drop 4).take (Tryz.prog.cellsOf 3)) = some y4 := hf 4 _ rfl
    have f5 : DataW.trod enc Tryz.prog W base (fun _ => true) held n 38 (([c0, c1, c2, c3, c4, c5, c6, c7, c8].drop 5).take (Tryz.prog.cellsOf 38)) = some y5 := hf 5 _ rfl
    have f6 : DataW.trod enc Tryz.prog W base (fun _ => true) held n 41 (([c0, c1, c2, c3, c4, c5, c6, c7, c8].drop 7).take (Tryz.prog.cellsOf 41)) = some y6 := hf 6 _ rfl
    rw [Tryz.cells3] at f0 f4
    rw [Tryz.cells9] at f1 f2
    rw [Tryz.cells35] at f3
    rw [Tryz.cells38] at f5
    rw [Tryz.cells41] at f6
    obtain ⟨a0, b0, e0⟩ := int_of_trod f0
    obtain ⟨a1, b1, e1⟩ := str_of_trod f1
    obtain ⟨a2, b2, e2⟩ := str_of_trod f2
    obtain ⟨v3, l3, e3, r3, b3⟩ := bytes_of_trod f3
    obtain ⟨a4, b4, e4⟩ := int_of_trod f4
    obtain ⟨xs5, n5, _, rfl, hl5, hlen5, hf5⟩ := DataW.trod_struct Tryz.underlying38 f5
    obtain ⟨xs6, n6, _, rfl, hl6, hlen6, hf6⟩ := DataW.trod_struct Tryz.underlying41 f6
    match xs5, hlen5, xs6, hlen6 with
    | [p0, p1], _, [q0, q1], _ =>
      have g0 : DataW.trod enc Tryz.prog W base (fun _ => true) held n5 36 (([c5, c6].drop 0).take (Tryz.prog.cellsOf 36)) = some p0 := hf5 0 _ rfl
      have g1 : DataW.trod enc Tryz.prog W base (fun _ => true) held n5 36 (([c5, c6].drop 1).take (Tryz.prog.cellsOf 36)) = some p1 := hf5 1 _ rfl
      have k0 : DataW.trod enc Tryz.prog W base (fun _ => true) held n6 3 (([c7, c8].drop 0).take (Tryz.prog.cellsOf 3)) = some q0 := hf6 0 _ rfl
      have k1 : DataW.trod enc Tryz.prog W base (fun _ => true) held n6 39 (([c7, c8].drop 1).take (Tryz.prog.cellsOf 39)) = some q1 := hf6 1 _ rfl
      rw [Tryz.cells36] at g0 g1
      rw [Tryz.cells3] at k0
      rw [Tryz.cells39] at k1
      obtain ⟨v5, l5, e5, r5, b5⟩ := faults_of_trod g0
      obtain ⟨v6, l6, e6, r6, b6⟩ := faults_of_trod g1
      obtain ⟨a7, b7, e7⟩ := int_of_trod k0
      obtain ⟨v8, l8, e8, r8⟩ := picks_of_trod k1
      simp at e0 e1 e2 e3 e4 e5 e6 e7 e8
      subst e0 e1 e2 e3 e4 e5 e6 e7 e8
      exact ⟨⟨a0, a1, a2, c3, l3, a4, c5, l5, c6, l6, a7, c8, l8⟩, ⟨b0, b4, b7, b1, b2, r3, b3, r5, b5, r6, b6, r8⟩, rfl⟩

theorem Sp.ok.ones {w : World} {x : Sp} (h : x.ok w) : ∀ u ∈ scs x, u.oneCell' = true := by
  have h1 := Rf.one h.dt
  have h2 := Rf.one h.fs
  have h3 := Rf.one h.fr
  have h4 := Rf.one h.pk.1
  intro u hu
  simp [scs] at hu
  rcases hu with rfl | rfl | rfl | rfl | rfl | rfl | rfl | rfl | rfl <;> first | rfl | assumption

theorem steps_of_trod (h : DataW.trod enc Tryz.prog W base (fun _ => true) held fuel 32 cs = some x) : ∃ v ys, cs = [v] ∧ Sps W v ys := by
  obtain ⟨v, ys, e, h1, h2⟩ := rf_of_trod (fun p : Sp => if (scs p).all Value.oneCell' = true then scs p else List.replicate 9 (.int .i64 0)) (fun p : Sp => p.ok W) 9 (fun y => by split <;> rfl)
    (fun y u hu => by
      split at hu
      · rename_i hy; rw [List.all_eq_true] at hy; exact hy u hu
      · rw [List.eq_of_mem_replicate hu]; rfl) Tryz.underlying32 Tryz.cells43 (fun _ _ _ h => by obtain ⟨y, a, b⟩ := step_of_trod h; exact ⟨y, a, by rw [if_pos (List.all_eq_true.2 a.ones)]; exact b⟩) h
  refine ⟨v, ys, e, ?_, h2⟩
  have : ys.flatMap (fun p : Sp => if (scs p).all Value.oneCell' = true then scs p else List.replicate 9 (.int .i64 0)) = ys.flatMap scs := by
    clear h1 e
    induction ys with
    | nil => rfl
    | cons y ys ih => rw [List.flatMap_cons, List.flatMap_cons, ih (fun p hp => h2 p (List.mem_cons_of_mem _ hp)), if_pos (List.all_eq_true.2 (h2 y (List.mem_cons_self ..)).ones)]
  rw [this] at h1
  exact h1

end

theorem Ln.below {w w' : World} {v : Value} {ls : List Int} (h : Ln w v ls) (hk : Below w.heap.size w w') : Ln w' v ls := Rf.below h hk
theorem Fl.below {w w' : World} {v : Value} {ls : List (Int × Int)} (h : Fl w v ls) (hk : Below w.heap.size w w') : Fl w' v ls := Rf.below h hk
theorem Pks.below {w w' : World} {v : Value} {ls : List Pk} (h : Pks w v ls) (hk : Below w.heap.size w w') : Pks w' v ls := ⟨h.1.below hk, fun p hp => ⟨(h.2 p hp).1, Ln.below (h.2 p hp).2.1 hk, (h.2 p hp).2.2⟩⟩
theorem Sp.ok.below {w w' : World} {x : Sp} (h : x.ok w) (hk : Below w.heap.size w w') : x.ok w' := ⟨h.kind, h.n, h.pn, h.name, h.to, h.dt.below hk, h.oct, Rf.below h.fs hk, h.fi, Rf.below h.fr hk, h.ri, h.pk.below hk⟩
theorem Sps.below {w w' : World} {v : Value} {xs : List Sp} (h : Sps w v xs) (hk : Below w.heap.size w w') : Sps w' v xs := ⟨h.1.below hk, fun x hx => (h.2 x hx).below hk⟩

end Go.Proofs.YtlmompdfombgeaaGreat

namespace Go.Proofs.YtlmompdfombgeaaGreat
open Go.RowKit

/-- The cells of element k. -/
theorem Rf.elem {w : World} {α : Type} {f : α → List Value} {m : Nat} {v : Value} {xs : List α} (hf : ∀ x, (f x).length = m) (hm : 0 < m) (h : Rf w m v xs.length (xs.flatMap f)) (k : Nat) (hk : k < xs.length) :
    ∃ b off cap, v = .slice (some ⟨b, off, none⟩) xs.length cap ∧ xs.length ≤ cap ∧ cap ≤ maxLen ∧ ∀ c u, (f xs[k])[c]? = some u → w.cell? ⟨b, off + k * m + c, none⟩ = some u := by
  obtain ⟨b, off, cap, rfl, h1, h2, h3⟩ := h.lits (by omega) hm
  refine ⟨b, off, cap, rfl, h1, h2, fun c u hu => ?_⟩
  have hc : c < m := by
    rcases Nat.lt_or_ge c m with h | h
    · exact h
    · rw [List.getElem?_eq_none (by rw [hf]; exact h)] at hu
      cases hu
  have := h3 (k * m + c) u (by rw [flat_get f m hf _ _ _ hc]; simp [hk, hu])
  rwa [← Nat.add_assoc] at this

/-- A step that is not too much. -/
def Sp.small (x : Sp) : Prop := x.data.length ≤ 200000 ∧ x.name.size ≤ 200000 ∧ x.to.size ≤ 200000 ∧ x.fs.length ≤ 300 ∧ x.fr.length ≤ 300 ∧ x.pk.length ≤ 300 ∧ ∀ p ∈ x.pk, p.lost.length ≤ 300

/-- What 'much' tells. -/
def MuchPost (xs : List Sp) (x : Ending) : Prop := ∃ r, x = .returned (.bool r) ∧ (r = false → xs.length ≤ 200 ∧ ∀ x ∈ xs, x.small)

theorem muchTrue (xs : List Sp) : MuchPost xs (.returned (.bool true)) := ⟨true, rfl, fun h => by cases h⟩

set_option maxRecDepth 100000 in
set_option maxHeartbeats 1600000 in
theorem much_any (v : Value) (xs : List Sp) (w : World) (h : Sps w v xs) :
    Calls Tryz.prog 13 #[v] w fun x w' => Below w.heap.size w w' ∧ MuchPost xs x := by
  obtain ⟨ao, cap, rfl, hc, hcm⟩ := h.1.shape
  unfold maxLen at hcm
  have HS := hid h
  clear h
  by_cases h1 : 200 < xs.length
  · go_enter Tryz.func13, Tryz.ntmps13
    go_wp2
    go_ret
    exact ⟨Below.refl _ _, muchTrue xs⟩
  · go_enter Tryz.func13, Tryz.ntmps13
    go_wp2
    go_loopw [3, 4] (fun n i wr => ∃ (k t : Nat), k ≤ xs.length ∧ i = .int .i64 k ∧ n = .int .i64 t ∧ t ≤ k * 600000 ∧ Hid (Below w.heap.size w wr) ∧ Hid (∀ j x, j < k → xs[j]? = some x → x.small)) (fun _ i _ => xs.length - (intOf i).toNat)
    case atStart => exact ⟨0, 0, Nat.zero_le _, rfl, rfl, by omega, hid (Below.refl _ _), hid (fun j x h => by omega)⟩
    case round =>
      obtain ⟨k, t, hk, rfl, rfl, ht, HB, HP⟩ := hrel
      by_cases hlt : k < xs.length
      · obtain ⟨b, off, cap', e, -, -, hcell⟩ := Rf.elem (f := scs) (fun _ => rfl) (by omega) HS.out.1 k hlt
        injection e with e1 e2 e3
        subst e1 e3
        clear e2
        have hok := HS.out.2 xs[k] (List.getElem_mem hlt)
        obtain ⟨x, hxe⟩ : ∃ x, x = xs[k] := ⟨_, rfl⟩
        rw [← hxe] at hcell hok
        have HX := hid hxe
        obtain ⟨kind, name, to, dv, data, nn, sv, fs, rv, fr, pn, fv, pk⟩ := x
        obtain ⟨-, -, -, hn1, hn2, hdt, -, hfs, -, hfr, -, hpk, hpo⟩ := hok
        obtain ⟨a1, q1, e1, d1, d2⟩ := hdt.shape
        obtain ⟨a2, q2, e2, d3, d4⟩ := hfs.shape
        obtain ⟨a3, q3, e3, d5, d6⟩ := hfr.shape
        obtain ⟨a4, q4, e4, d7, d8⟩ := hpk.shape
        dsimp only at e1 e2 e3 e4 hn1 hn2
        subst e1 e2 e3 e4
        have hb := HB.out
        have cc : ∀ c u, (scs ⟨kind, name, to, .slice a1 data.length q1, data, nn, .slice a2 fs.length q2, fs, .slice a3 fr.length q3, fr, pn, .slice a4 pk.length q4, pk⟩)[c]? = some u → wr.cell? ⟨b, off + k * 9 + c, none⟩ = some u := fun c u hu => (hb.cell (World.block_lt_of_cell? _ _ (hcell c u hu))).trans (hcell c u hu)
        have c0 : wr.cell? ⟨b, off + k * 9, none⟩ = _ := cc 0 _ rfl
        have c1 := cc 1 _ rfl
        have c2 := cc 2 _ rfl
        have c3 := cc 3 _ rfl
        have c4 := cc 4 _ rfl
        have c5 := cc 5 _ rfl
        have c6 := cc 6 _ rfl
        have c7 := cc 7 _ rfl
        have c8 := cc 8 _ rfl
        dsimp only at d1 d2 d3 d4 d5 d6 d7 d8 hpk hpo
        unfold maxLen at d2 d4 d6 d8 hn1 hn2
        have HK := hid (And.intro hpk hpo)
        clear hcell hdt hfs hfr hpk hpo hb cc hxe

        by_cases z1 : 200000 < data.length
        · go_wp2
          go_ret
          exact ⟨HB.out.alloc (HB.out.size) _, muchTrue xs⟩
        by_cases z2 : 200000 < name.size
        · go_wp2
          go_ret
          exact ⟨HB.out.alloc (HB.out.size) _, muchTrue xs⟩
        by_cases z3 : 200000 < to.size
        · go_wp2
          go_ret
          exact ⟨HB.out.alloc (HB.out.size) _, muchTrue xs⟩
        by_cases z4 : 300 < fs.length
        · go_wp2
          go_ret
          exact ⟨HB.out.alloc (HB.out.size) _, muchTrue xs⟩
        by_cases z5 : 300 < fr.length
        · go_wp2
          go_ret
          exact ⟨HB.out.alloc (HB.out.size) _, muchTrue xs⟩
        by_cases z6 : 300 < pk.length
        · go_wp2
          go_ret
          exact ⟨HB.out.alloc (HB.out.size) _, muchTrue xs⟩
        go_wp2
        go_loop [6] (fun i => ∃ (j : Nat), j ≤ pk.length ∧ i = .int .i64 j ∧ Hid (∀ i p, i < j → pk[i]? = some p → p.lost.length ≤ 300)) (fun i => pk.length - (intOf i).toNat)
        case atStart => exact ⟨0, Nat.zero_le _, rfl, hid (fun j x h => by omega)⟩
        case round =>
          obtain ⟨j, hj, rfl, HJ⟩ := hrel
          by_cases hjl : j < pk.length
          · obtain ⟨b2, off2, cap2, e, -, -, hcell⟩ := Rf.elem (f := pcs) (fun _ => rfl) (by omega) HK.out.1 j hjl
            injection e with e1 e2 e3
            subst e1 e3
            clear e2
            have hpok := HK.out.2 pk[j] (List.getElem_mem hjl)
            obtain ⟨y, hye⟩ : ∃ y, y = pk[j] := ⟨_, rfl⟩
            rw [← hye] at hcell hpok
            obtain ⟨dn, lv, lost⟩ := y
            obtain ⟨-, hln, -, -⟩ := hpok
            obtain ⟨a5, q5, e5, d9, d10⟩ := hln.shape
            dsimp only at e5
            subst e5
            have y1 := hcell 1 _ rfl
            have hb1 := HB.out.alloc (HB.out.size) (.cells #[.int .i64 kind, .string name, .string to, .slice a1 data.length q1, .int .i64 nn, .slice a2 fs.length q2, .slice a3 fr.length q3, .int .i64 pn, .slice (some ⟨b2, off2, none⟩) pk.length q4] 43)
            have y2 := (hb1.cell (World.block_lt_of_cell? _ _ y1)).trans y1
            have HY := hid hye
            dsimp only at d9 d10
            unfold maxLen at d10
            clear hcell hln y1 hb1 hye
            by_cases z7 : 300 < lost.length
            · go_wp2
              go_ret
              exact ⟨HB.out.alloc (HB.out.size) _, muchTrue xs⟩
            · go_wp2
              go_round
              case rel =>
                refine ⟨j + 1, by omega, by go_num, hid (fun i p hi hp => ?_)⟩
                by_cases e : i = j
                · subst e
                  simp [hjl] at hp
                  rw [← HY.out] at hp
                  rw [← hp]
                  exact (by omega : lost.length ≤ 300)
                · exact HJ.out i p (by omega) hp
              case measure => simp [intOf]; omega
          · go_wp2
            go_roundw
            case rel =>
              refine ⟨k + 1, t + data.length + name.size + to.size, by omega, by go_num, by go_num, by omega, hid (HB.out.alloc HB.out.size _), hid (fun i p hi hp => ?_)⟩
              by_cases e : i = k
              · subst e
                simp [hlt] at hp
                rw [← HX.out] at hp
                rw [← hp]
                refine ⟨by dsimp only; omega, by dsimp only; omega, by dsimp only; omega, by dsimp only; omega, by dsimp only; omega, by dsimp only; omega, fun p hp2 => ?_⟩
                obtain ⟨i2, hi2, rfl⟩ := List.getElem_of_mem hp2
                dsimp only at hi2
                exact HJ.out i2 _ (by omega) (by simp [hi2])
              · exact HP.out i p (by omega) hp
            case measure => simp [intOf]; omega
      · obtain rfl : k = xs.length := by omega
        go_wp2
        go_ret
        refine ⟨HB.out, _, rfl, ?_⟩
        intro h
        refine ⟨by omega, fun x hx => ?_⟩
        obtain ⟨i, hi, rfl⟩ := List.getElem_of_mem hx
        exact HP.out i _ hi (by simp [hi])

end Go.Proofs.YtlmompdfombgeaaGreat
