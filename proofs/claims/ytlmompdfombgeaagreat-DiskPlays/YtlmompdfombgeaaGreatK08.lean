import Derived.Test.YtlmompdfombgeaaGreatK07
import Derived.Test.YtlmompdfombgeaaGreatK06
import Derived.Test.YtlmompdfombgeaaGreatK01
namespace Go.Proofs.YtlmompdfombgeaaGreat
open Go.RowKit

/-- A number of 64 binary digits. -/
def I64 (x : Int) : Prop := -9223372036854775808 ≤ x ∧ x < 9223372036854775808

/-- A fault's cells. -/
def fcs (x : Int × Int) : List Value := [.int .i64 x.1, .int .i64 x.2]
/-- A list of faults. -/
def Fl (w : World) (v : Value) (fs : List (Int × Int)) : Prop := Rf w 2 v fs.length (fs.flatMap fcs)

/-- A list of numbers. -/
def Ln (w : World) (v : Value) (ls : List Int) : Prop := Rf w 1 v ls.length (ls.flatMap fun x => [.int .i64 x])

/-- What is picked of a file. -/
structure Pk where
  done : Int
  lv : Value
  lost : List Int
instance : Inhabited Pk := ⟨⟨0, .slice none 0 0, []⟩⟩
def Pk.ok (w : World) (p : Pk) : Prop := I64 p.done ∧ Ln w p.lv p.lost ∧ (∀ x ∈ p.lost, I64 x) ∧ p.lv.oneCell' = true
def pcs (x : Pk) : List Value := [.int .i64 x.done, x.lv]
/-- A list of picks. -/
def Pks (w : World) (v : Value) (ps : List Pk) : Prop := Rf w 2 v ps.length (ps.flatMap pcs) ∧ ∀ p ∈ ps, p.ok w

/-- A step. -/
structure Sp where
  kind : Int
  name : ByteArray
  to : ByteArray
  dv : Value
  data : List Int
  n : Int
  sv : Value
  fs : List (Int × Int)
  rv : Value
  fr : List (Int × Int)
  pn : Int
  fv : Value
  pk : List Pk
instance : Inhabited Sp := ⟨⟨0, ByteArray.empty, ByteArray.empty, .slice none 0 0, [], 0, .slice none 0 0, [], .slice none 0 0, [], 0, .slice none 0 0, []⟩⟩

def I2 (x : Int × Int) : Prop := I64 x.1 ∧ I64 x.2

structure Sp.ok (w : World) (x : Sp) : Prop where
  kind : I64 x.kind
  n : I64 x.n
  pn : I64 x.pn
  name : x.name.size ≤ maxLen
  to : x.to.size ≤ maxLen
  dt : Rf w 1 x.dv x.data.length (x.data.flatMap fun y => [.int .u8 y])
  oct : ∀ y ∈ x.data, 0 ≤ y ∧ y < 256
  fs : Fl w x.sv x.fs
  fi : ∀ y ∈ x.fs, I2 y
  fr : Fl w x.rv x.fr
  ri : ∀ y ∈ x.fr, I2 y
  pk : Pks w x.fv x.pk

def scs (x : Sp) : List Value := [.int .i64 x.kind, .string x.name, .string x.to, x.dv, .int .i64 x.n, x.sv, x.rv, .int .i64 x.pn, x.fv]

/-- A script. -/
def Sps (w : World) (v : Value) (xs : List Sp) : Prop := Rf w 9 v xs.length (xs.flatMap scs) ∧ ∀ x ∈ xs, x.ok w

theorem Rf.one {w : World} {m : Nat} {v : Value} {n : Nat} {cs : List Value} (h : Rf w m v n cs) : v.oneCell' = true := by
  obtain ⟨ao, cap, rfl, _⟩ := h.shape
  rfl

theorem Tryz.cells5 : Tryz.prog.cellsOf 5 = 1 := by kernel_rfl
theorem Tryz.cells3 : Tryz.prog.cellsOf 3 = 1 := by kernel_rfl
theorem Tryz.cells9 : Tryz.prog.cellsOf 9 = 1 := by kernel_rfl
theorem Tryz.cells35 : Tryz.prog.cellsOf 35 = 1 := by kernel_rfl
theorem Tryz.cells36 : Tryz.prog.cellsOf 36 = 1 := by kernel_rfl
theorem Tryz.cells38 : Tryz.prog.cellsOf 38 = 2 := by kernel_rfl
theorem Tryz.cells39 : Tryz.prog.cellsOf 39 = 1 := by kernel_rfl
theorem Tryz.cells41 : Tryz.prog.cellsOf 41 = 2 := by kernel_rfl
theorem Tryz.cells43 : Tryz.prog.cellsOf 43 = 9 := by kernel_rfl
theorem Tryz.cells64 : Tryz.prog.cellsOf 64 = 1 := by kernel_rfl
theorem Tryz.cells91 : Tryz.prog.cellsOf 91 = 2 := by kernel_rfl
theorem Tryz.cells154 : Tryz.prog.cellsOf 154 = 2 := by kernel_rfl

section
variable {H : Type} {enc : TypeId × Value → H} {W : World} {base : Nat} {held : Bool} {fuel : Nat} {cs : List Value} {x : DataW H × List MemPlace}

theorem int_of_trod (h : DataW.trod enc Tryz.prog W base (fun _ => true) held fuel 3 cs = some x) : ∃ y : Int, I64 y ∧ cs = [.int .i64 y] := by
  obtain ⟨a0, e0, _, w0⟩ := DataW.trod_int Tryz.underlying3 h
  have b := bounds_i64 w0
  exact ⟨a0, ⟨b.1, by omega⟩, e0⟩

theorem byte_of_trod (h : DataW.trod enc Tryz.prog W base (fun _ => true) held fuel 5 cs = some x) : ∃ y : Int, (0 ≤ y ∧ y < 256) ∧ cs = [.int .u8 y] := by
  obtain ⟨a0, e0, _, w0⟩ := DataW.trod_int Tryz.underlying5 h
  have b := bounds_u8 w0
  exact ⟨a0, ⟨b.1, by omega⟩, e0⟩

theorem str_of_trod (h : DataW.trod enc Tryz.prog W base (fun _ => true) held fuel 9 cs = some x) : ∃ y : ByteArray, y.size ≤ maxLen ∧ cs = [.string y] := by
  obtain ⟨s, e4, _, w4⟩ := DataW.trod_string Tryz.underlying9 h
  exact ⟨s, w4, e4⟩

set_option maxRecDepth 100000 in
theorem fault_of_trod (h : DataW.trod enc Tryz.prog W base (fun _ => true) held fuel 154 cs = some x) : ∃ y : Int × Int, I2 y ∧ cs = fcs y := by
  obtain ⟨xs, n, _, rfl, hl, hlen, hf⟩ := DataW.trod_struct Tryz.underlying154 h
  rw [Tryz.cells154] at hl
  match cs, hl, xs, hlen with
  | [c0, c1], _, [y0, y1], _ =>
    have f0 : DataW.trod enc Tryz.prog W base (fun _ => true) held n 3 (([c0, c1].drop 0).take (Tryz.prog.cellsOf 3)) = some y0 := hf 0 _ rfl
    have f1 : DataW.trod enc Tryz.prog W base (fun _ => true) held n 3 (([c0, c1].drop 1).take (Tryz.prog.cellsOf 3)) = some y1 := hf 1 _ rfl
    rw [Tryz.cells3] at f0 f1
    obtain ⟨a0, b0, e0⟩ := int_of_trod f0
    obtain ⟨a1, b1, e1⟩ := int_of_trod f1
    simp at e0 e1
    subst e0 e1
    exact ⟨(a0, a1), ⟨b0, b1⟩, rfl⟩

theorem faults_of_trod (h : DataW.trod enc Tryz.prog W base (fun _ => true) held fuel 36 cs = some x) : ∃ v ys, cs = [v] ∧ Fl W v ys ∧ ∀ y ∈ ys, I2 y :=
  rf_of_trod fcs I2 2 (fun _ => rfl) (fun y u hu => by simp [fcs] at hu; rcases hu with rfl | rfl <;> rfl) Tryz.underlying36 Tryz.cells154 (fun _ _ _ h => fault_of_trod h) h

theorem bytes_of_trod (h : DataW.trod enc Tryz.prog W base (fun _ => true) held fuel 35 cs = some x) : ∃ (v : Value) (ys : List Int), cs = [v] ∧ Rf W 1 v ys.length (ys.flatMap fun y => [.int .u8 y]) ∧ ∀ y ∈ ys, 0 ≤ y ∧ y < 256 :=
  rf_of_trod (fun y : Int => [.int .u8 y]) (fun y => 0 ≤ y ∧ y < 256) 1 (fun _ => rfl) (fun y u hu => by simp at hu; subst hu; rfl) Tryz.underlying35 Tryz.cells5 (fun _ _ _ h => byte_of_trod h) h

theorem ints_of_trod (h : DataW.trod enc Tryz.prog W base (fun _ => true) held fuel 64 cs = some x) : ∃ v ys, cs = [v] ∧ Ln W v ys ∧ ∀ y ∈ ys, I64 y :=
  rf_of_trod (fun y : Int => [.int .i64 y]) I64 1 (fun _ => rfl) (fun y u hu => by simp at hu; subst hu; rfl) Tryz.underlying64 Tryz.cells3 (fun _ _ _ h => int_of_trod h) h

set_option maxRecDepth 100000 in
theorem pick_of_trod (h : DataW.trod enc Tryz.prog W base (fun _ => true) held fuel 91 cs = some x) : ∃ y : Pk, y.ok W ∧ cs = pcs y := by
  obtain ⟨xs, n, _, rfl, hl, hlen, hf⟩ := DataW.trod_struct Tryz.underlying91 h
  rw [Tryz.cells91] at hl
  match cs, hl, xs, hlen with
  | [c0, c1], _, [y0, y1], _ =>
    have f0 : DataW.trod enc Tryz.prog W base (fun _ => true) held n 3 (([c0, c1].drop 0).take (Tryz.prog.cellsOf 3)) = some y0 := hf 0 _ rfl
    have f1 : DataW.trod enc Tryz.prog W base (fun _ => true) held n 64 (([c0, c1].drop 1).take (Tryz.prog.cellsOf 64)) = some y1 := hf 1 _ rfl
    rw [Tryz.cells3] at f0
    rw [Tryz.cells64] at f1
    obtain ⟨a0, b0, e0⟩ := int_of_trod f0
    obtain ⟨v1, l1, e1, r1, b1⟩ := ints_of_trod f1
    simp at e0 e1
    subst e0 e1
    exact ⟨⟨a0, c1, l1⟩, ⟨b0, r1, b1, Rf.one r1⟩, rfl⟩

theorem picks_of_trod (h : DataW.trod enc Tryz.prog W base (fun _ => true) held fuel 39 cs = some x) : ∃ v ys, cs = [v] ∧ Pks W v ys := by
  obtain ⟨v, ys, e, h1, h2⟩ := rf_of_trod (fun p : Pk => if p.lv.oneCell' = true then pcs p else [.int .i64 0, .int .i64 0]) (fun p : Pk => p.ok W) 2 (fun y => by split <;> rfl)
    (fun y u hu => by
      split at hu
      · rename_i hy; simp [pcs] at hu; rcases hu with rfl | rfl; rfl; exact hy
      · simp at hu; subst hu; rfl) Tryz.underlying39 Tryz.cells91 (fun _ _ _ h => by obtain ⟨y, a, b⟩ := pick_of_trod h; exact ⟨y, a, by rw [if_pos a.2.2.2]; exact b⟩) h
  refine ⟨v, ys, e, ?_, h2⟩
  have : ys.flatMap (fun p : Pk => if p.lv.oneCell' = true then pcs p else [.int .i64 0, .int .i64 0]) = ys.flatMap pcs := by
    clear h1 e
    induction ys with
    | nil => rfl
    | cons y ys ih => rw [List.flatMap_cons, List.flatMap_cons, ih (fun p hp => h2 p (List.mem_cons_of_mem _ hp)), if_pos (h2 y (List.mem_cons_self ..)).2.2.2]
  rw [this] at h1
  exact h1

set_option maxRecDepth 100000 in
theorem step_of_trod (h : DataW.trod enc Tryz.prog W base (fun _ => true) held fuel 43 cs = some x) : ∃ y : Sp, y.ok W ∧ cs = scs y := by
  obtain ⟨xs, n, _, rfl, hl, hlen, hf⟩ := DataW.trod_struct Tryz.underlying43 h
  rw [Tryz.cells43] at hl
  match cs, hl, xs, hlen with
  | [c0, c1, c2, c3, c4, c5, c6, c7, c8], _, [y0, y1, y2, y3, y4, y5, y6], _ =>
    have f0 : DataW.trod enc Tryz.prog W base (fun _ => true) held n 3 (([c0, c1, c2, c3, c4, c5, c6, c7, c8].drop 0).take (Tryz.prog.cellsOf 3)) = some y0 := hf 0 _ rfl
    have f1 : DataW.trod enc Tryz.prog W base (fun _ => true) held n 9 (([c0, c1, c2, c3, c4, c5, c6, c7, c8].drop 1).take (Tryz.prog.cellsOf 9)) = some y1 := hf 1 _ rfl
    have f2 : DataW.trod enc Tryz.prog W base (fun _ => true) held n 9 (([c0, c1, c2, c3, c4, c5, c6, c7, c8].drop 2).take (Tryz.prog.cellsOf 9)) = some y2 := hf 2 _ rfl
    have f3 : DataW.trod enc Tryz.prog W base (fun _ => true) held n 35 (([c0, c1, c2, c3, c4, c5, c6, c7, c8].drop 3).take (Tryz.prog.cellsOf 35)) = some y3 := hf 3 _ rfl
    have f4 : DataW.trod enc Tryz.prog W base (fun _ => true) held n 3 (([c0, c1, c2, c3, c4, c5, c6, c7, c8].drop 4).take (Tryz.prog.cellsOf 3)) = some y4 := hf 4 _ rfl
    have f5 : DataW.trod enc Tryz.prog W base (fun _ => true) held n 38 (([c0, c1, c2, c3, c4, c5, c6, c7, c8].drop 5).take (Tryz.prog.cellsOf 38)) = some y5 := hf 5 _ rfl
    have f6 : DataW.trod enc Tryz.prog W base (fun _ => true) held n 41 (([c0, c1, c2, c3, c4, c5, c6, c7, c8].drop 7).take (Tryz.prog.cellsOf 41)) = some y6 := hf 6 _ rfl
    rw [Tryz.cells3] at f0 f4
    rw [Tryz.cells9] at f1 f2
    rw [Tryz.cells35] at f3
    rw [Tryz.cells38] at f5
    rw [Tryz.cells41] at f6
    obtain ⟨a0, b0, e0⟩ := int_of_trod f0
    obtain ⟨a1, b1, e1⟩ := str_of_trod f1
    obtain ⟨a2, b2, e2⟩ := str_of_trod f2
    obtain ⟨v3, l3, e3, r3, b3⟩ := bytes_of_trod f3
    obtain ⟨a4, b4, e4⟩ := int_of_trod f4
    obtain ⟨xs5, n5, _, rfl, hl5, hlen5, hf5⟩ := DataW.trod_struct Tryz.underlying38 f5
    obtain ⟨xs6, n6, _, rfl, hl6, hlen6, hf6⟩ := DataW.trod_struct Tryz.underlying41 f6
    match xs5, hlen5, xs6, hlen6 with
    | [p0, p1], _, [q0, q1], _ =>
      have g0 : DataW.trod enc Tryz.prog W base (fun _ => true) held n5 36 (([c5, c6].drop 0).take (Tryz.prog.cellsOf 36)) = some p0 := hf5 0 _ rfl
      have g1 : DataW.trod enc Tryz.prog W base (fun _ => true) held n5 36 (([c5, c6].drop 1).take (Tryz.prog.cellsOf 36)) = some p1 := hf5 1 _ rfl
      have k0 : DataW.trod enc Tryz.prog W base (fun _ => true) held n6 3 (([c7, c8].drop 0).take (Tryz.prog.cellsOf 3)) = some q0 := hf6 0 _ rfl
      have k1 : DataW.trod enc Tryz.prog W base (fun _ => true) held n6 39 (([c7, c8].drop 1).take (Tryz.prog.cellsOf 39)) = some q1 := hf6 1 _ rfl
      rw [Tryz.cells36] at g0 g1
      rw [Tryz.cells3] at k0
      rw [Tryz.cells39] at k1
      obtain ⟨v5, l5, e5, r5, b5⟩ := faults_of_trod g0
      obtain ⟨v6, l6, e6, r6, b6⟩ := faults_of_trod g1
      obtain ⟨a7, b7, e7⟩ := int_of_trod k0
      obtain ⟨v8, l8, e8, r8⟩ := picks_of_trod k1
      simp at e0 e1 e2 e3 e4 e5 e6 e7 e8
      subst e0 e1 e2 e3 e4 e5 e6 e7 e8
      exact ⟨⟨a0, a1, a2, c3, l3, a4, c5, l5, c6, l6, a7, c8, l8⟩, ⟨b0, b4, b7, b1, b2, r3, b3, r5, b5, r6, b6, r8⟩, rfl⟩

theorem Sp.ok.ones {w : World} {x : Sp} (h : x.ok w) : ∀ u ∈ scs x, u.oneCell' = true := by
  have h1 := Rf.one h.dt
  have h2 := Rf.one h.fs
  have h3 := Rf.one h.fr
  have h4 := Rf.one h.pk.1
  intro u hu
  simp [scs] at hu
  rcases hu with rfl | rfl | rfl | rfl | rfl | rfl | rfl | rfl | rfl <;> first | rfl | assumption

theorem steps_of_trod (h : DataW.trod enc Tryz.prog W base (fun _ => true) held fuel 32 cs = some x) : ∃ v ys, cs = [v] ∧ Sps W v ys := by
  obtain ⟨v, ys, e, h1, h2⟩ := rf_of_trod (fun p : Sp => if (scs p).all Value.oneCell' = true then scs p else List.replicate 9 (.int .i64 0)) (fun p : Sp => p.ok W) 9 (fun y => by split <;> rfl)
    (fun y u hu => by
      split at hu
      · rename_i hy; rw [List.all_eq_true] at hy; exact hy u hu
      · rw [List.eq_of_mem_replicate hu]; rfl) Tryz.underlying32 Tryz.cells43 (fun _ _ _ h => by obtain ⟨y, a, b⟩ := step_of_trod h; exact ⟨y, a, by rw [if_pos (List.all_eq_true.2 a.ones)]; exact b⟩) h
  refine ⟨v, ys, e, ?_, h2⟩
  have : ys.flatMap (fun p : Sp => if (scs p).all Value.oneCell' = true then scs p else List.replicate 9 (.int .i64 0)) = ys.flatMap scs := by
    clear h1 e
    induction ys with
    | nil => rfl
    | cons y ys ih => rw [List.flatMap_cons, List.flatMap_cons, ih (fun p hp => h2 p (List.mem_cons_of_mem _ hp)), if_pos (List.all_eq_true.2 (h2 y (List.mem_cons_self ..)).ones)]
  rw [this] at h1
  exact h1

end

theorem Ln.below {w w' : World} {v : Value} {ls : List Int} (h : Ln w v ls) (hk : Below w.heap.size w w') : Ln w' v ls := Rf.below h hk
theorem Fl.below {w w' : World} {v : Value} {ls : List (Int × Int)} (h : Fl w v ls) (hk : Below w.heap.size w w') : Fl w' v ls := Rf.below h hk
theorem Pks.below {w w' : World} {v : Value} {ls : List Pk} (h : Pks w v ls) (hk : Below w.heap.size w w') : Pks w' v ls := ⟨h.1.below hk, fun p hp => ⟨(h.2 p hp).1, Ln.below (h.2 p hp).2.1 hk, (h.2 p hp).2.2⟩⟩
theorem Sp.ok.below {w w' : World} {x : Sp} (h : x.ok w) (hk : Below w.heap.size w w') : x.ok w' := ⟨h.kind, h.n, h.pn, h.name, h.to, h.dt.below hk, h.oct, Rf.below h.fs hk, h.fi, Rf.below h.fr hk, h.ri, h.pk.below hk⟩
theorem Sps.below {w w' : World} {v : Value} {xs : List Sp} (h : Sps w v xs) (hk : Below w.heap.size w w') : Sps w' v xs := ⟨h.1.below hk, fun x hx => (h.2 x hx).below hk⟩

end Go.Proofs.YtlmompdfombgeaaGreat

namespace Go.Proofs.YtlmompdfombgeaaGreat
open Go.RowKit Go.MapKept

theorem round_eq (v n : Int) (hn : 0 < n) : (v.tmod n + n) % n = v % n ∧ -n < v.tmod n ∧ v.tmod n < n := by
  have h1 := Int.emod_nonneg v (by omega : n ≠ 0)
  have h2 := Int.emod_lt_of_pos v hn
  have h3 := Int.tmod_eq_emod (a := v) (b := n)
  have hb : (n.natAbs : Int) = n := by omega
  split at h3
  · have h4 : v.tmod n = v % n := by simpa using h3
    rw [h4]
    exact ⟨by rw [Int.add_emod_right, Int.emod_emod_of_dvd _ (Int.dvd_refl n)], by omega, by omega⟩
  · rw [hb] at h3
    rw [h3]
    refine ⟨?_, by omega, by omega⟩
    have h5 : v % n - n + n = v % n := by omega
    rw [h5, Int.emod_emod_of_dvd _ (Int.dvd_refl n)]

set_option maxRecDepth 100000 in
theorem round_any (v n : Int) (w : World) (hv : I64 v) (hn : 0 < n) (hn2 : n ≤ 1000000000) : Calls Tryz.prog 94 #[.int .i64 v, .int .i64 n] w fun x w' => x = .returned (.int .i64 (v % n)) ∧ w' = w := by
  obtain ⟨h0, h1⟩ := hv
  obtain ⟨e1, e2, e3⟩ := round_eq v n hn
  have hne : ¬ n = 0 := by omega
  have H1 := hid e1
  clear e1
  go_enter Tryz.func94, Tryz.ntmps94
  go_wp2
  go_ret
  refine ⟨?_, rfl⟩
  show Ending.returned (.int .i64 ((v.tmod n + n) % n)) = _
  rw [H1.out]

end Go.Proofs.YtlmompdfombgeaaGreat

namespace Go.Proofs.YtlmompdfombgeaaGreat
open Go.RowKit

/-- The cells of element k. -/
theorem Rf.elem {w : World} {α : Type} {f : α → List Value} {m : Nat} {v : Value} {xs : List α} (hf : ∀ x, (f x).length = m) (hm : 0 < m) (h : Rf w m v xs.length (xs.flatMap f)) (k : Nat) (hk : k < xs.length) :
    ∃ b off cap, v = .slice (some ⟨b, off, none⟩) xs.length cap ∧ xs.length ≤ cap ∧ cap ≤ maxLen ∧ ∀ c u, (f xs[k])[c]? = some u → w.cell? ⟨b, off + k * m + c, none⟩ = some u := by
  obtain ⟨b, off, cap, rfl, h1, h2, h3⟩ := h.lits (by omega) hm
  refine ⟨b, off, cap, rfl, h1, h2, fun c u hu => ?_⟩
  have hc : c < m := by
    rcases Nat.lt_or_ge c m with h | h
    · exact h
    · rw [List.getElem?_eq_none (by rw [hf]; exact h)] at hu
      cases hu
  have := h3 (k * m + c) u (by rw [flat_get f m hf _ _ _ hc]; simp [hk, hu])
  rwa [← Nat.add_assoc] at this

/-- A step that is not too much. -/
def Sp.small (x : Sp) : Prop := x.data.length ≤ 200000 ∧ x.name.size ≤ 200000 ∧ x.to.size ≤ 200000 ∧ x.fs.length ≤ 300 ∧ x.fr.length ≤ 300 ∧ x.pk.length ≤ 300 ∧ ∀ p ∈ x.pk, p.lost.length ≤ 300

/-- What 'much' tells. -/
def MuchPost (xs : List Sp) (x : Ending) : Prop := ∃ r, x = .returned (.bool r) ∧ (r = false → xs.length ≤ 200 ∧ ∀ x ∈ xs, x.small)

theorem muchTrue (xs : List Sp) : MuchPost xs (.returned (.bool true)) := ⟨true, rfl, fun h => by cases h⟩

set_option maxRecDepth 100000 in
set_option maxHeartbeats 1600000 in
theorem much_any (v : Value) (xs : List Sp) (w : World) (h : Sps w v xs) :
    Calls Tryz.prog 13 #[v] w fun x w' => Below w.heap.size w w' ∧ MuchPost xs x := by
  obtain ⟨ao, cap, rfl, hc, hcm⟩ := h.1.shape
  unfold maxLen at hcm
  have HS := hid h
  clear h
  by_cases h1 : 200 < xs.length
  · go_enter Tryz.func13, Tryz.ntmps13
    go_wp2
    go_ret
    exact ⟨Below.refl _ _, muchTrue xs⟩
  · go_enter Tryz.func13, Tryz.ntmps13
    go_wp2
    go_loopw [3, 4] (fun n i wr => ∃ (k t : Nat), k ≤ xs.length ∧ i = .int .i64 k ∧ n = .int .i64 t ∧ t ≤ k * 600000 ∧ Hid (Below w.heap.size w wr) ∧ Hid (∀ j x, j < k → xs[j]? = some x → x.small)) (fun _ i _ => xs.length - (intOf i).toNat)
    case atStart => exact ⟨0, 0, Nat.zero_le _, rfl, rfl, by omega, hid (Below.refl _ _), hid (fun j x h => by omega)⟩
    case round =>
      obtain ⟨k, t, hk, rfl, rfl, ht, HB, HP⟩ := hrel
      by_cases hlt : k < xs.length
      · obtain ⟨b, off, cap', e, -, -, hcell⟩ := Rf.elem (f := scs) (fun _ => rfl) (by omega) HS.out.1 k hlt
        injection e with e1 e2 e3
        subst e1 e3
        clear e2
        have hok := HS.out.2 xs[k] (List.getElem_mem hlt)
        obtain ⟨x, hxe⟩ : ∃ x, x = xs[k] := ⟨_, rfl⟩
        rw [← hxe] at hcell hok
        have HX := hid hxe
        obtain ⟨kind, name, to, dv, data, nn, sv, fs, rv, fr, pn, fv, pk⟩ := x
        obtain ⟨-, -, -, hn1, hn2, hdt, -, hfs, -, hfr, -, hpk, hpo⟩ := hok
        obtain ⟨a1, q1, e1, d1, d2⟩ := hdt.shape
        obtain ⟨a2, q2, e2, d3, d4⟩ := hfs.shape
        obtain ⟨a3, q3, e3, d5, d6⟩ := hfr.shape
        obtain ⟨a4, q4, e4, d7, d8⟩ := hpk.shape
        dsimp only at e1 e2 e3 e4 hn1 hn2
        subst e1 e2 e3 e4
        have hb := HB.out
        have cc : ∀ c u, (scs ⟨kind, name, to, .slice a1 data.length q1, data, nn, .slice a2 fs.length q2, fs, .slice a3 fr.length q3, fr, pn, .slice a4 pk.length q4, pk⟩)[c]? = some u → wr.cell? ⟨b, off + k * 9 + c, none⟩ = some u := fun c u hu => (hb.cell (World.block_lt_of_cell? _ _ (hcell c u hu))).trans (hcell c u hu)
        have c0 : wr.cell? ⟨b, off + k * 9, none⟩ = _ := cc 0 _ rfl
        have c1 := cc 1 _ rfl
        have c2 := cc 2 _ rfl
        have c3 := cc 3 _ rfl
        have c4 := cc 4 _ rfl
        have c5 := cc 5 _ rfl
        have c6 := cc 6 _ rfl
        have c7 := cc 7 _ rfl
        have c8 := cc 8 _ rfl
        dsimp only at d1 d2 d3 d4 d5 d6 d7 d8 hpk hpo
        unfold maxLen at d2 d4 d6 d8 hn1 hn2
        have HK := hid (And.intro hpk hpo)
        clear hcell hdt hfs hfr hpk hpo hb cc hxe

        by_cases z1 : 200000 < data.length
        · go_wp2
          go_ret
          exact ⟨HB.out.alloc (HB.out.size) _, muchTrue xs⟩
        by_cases z2 : 200000 < name.size
        · go_wp2
          go_ret
          exact ⟨HB.out.alloc (HB.out.size) _, muchTrue xs⟩
        by_cases z3 : 200000 < to.size
        · go_wp2
          go_ret
          exact ⟨HB.out.alloc (HB.out.size) _, muchTrue xs⟩
        by_cases z4 : 300 < fs.length
        · go_wp2
          go_ret
          exact ⟨HB.out.alloc (HB.out.size) _, muchTrue xs⟩
        by_cases z5 : 300 < fr.length
        · go_wp2
          go_ret
          exact ⟨HB.out.alloc (HB.out.size) _, muchTrue xs⟩
        by_cases z6 : 300 < pk.length
        · go_wp2
          go_ret
          exact ⟨HB.out.alloc (HB.out.size) _, muchTrue xs⟩
        go_wp2
        go_loop [6] (fun i => ∃ (j : Nat), j ≤ pk.length ∧ i = .int .i64 j ∧ Hid (∀ i p, i < j → pk[i]? = some p → p.lost.length ≤ 300)) (fun i => pk.length - (intOf i).toNat)
        case atStart => exact ⟨0, Nat.zero_le _, rfl, hid (fun j x h => by omega)⟩
        case round =>
          obtain ⟨j, hj, rfl, HJ⟩ := hrel
          by_cases hjl : j < pk.length
          · obtain ⟨b2, off2, cap2, e, -, -, hcell⟩ := Rf.elem (f := pcs) (fun _ => rfl) (by omega) HK.out.1 j hjl
            injection e with e1 e2 e3
            subst e1 e3
            clear e2
            have hpok := HK.out.2 pk[j] (List.getElem_mem hjl)
            obtain ⟨y, hye⟩ : ∃ y, y = pk[j] := ⟨_, rfl⟩
            rw [← hye] at hcell hpok
            obtain ⟨dn, lv, lost⟩ := y
            obtain ⟨-, hln, -, -⟩ := hpok
            obtain ⟨a5, q5, e5, d9, d10⟩ := hln.shape
            dsimp only at e5
            subst e5
            have y1 := hcell 1 _ rfl
            have hb1 := HB.out.alloc (HB.out.size) (.cells #[.int .i64 kind, .string name, .string to, .slice a1 data.length q1, .int .i64 nn, .slice a2 fs.length q2, .slice a3 fr.length q3, .int .i64 pn, .slice (some ⟨b2, off2, none⟩) pk.length q4] 43)
            have y2 := (hb1.cell (World.block_lt_of_cell? _ _ y1)).trans y1
            have HY := hid hye
            dsimp only at d9 d10
            unfold maxLen at d10
            clear hcell hln y1 hb1 hye
            by_cases z7 : 300 < lost.length
            · go_wp2
              go_ret
              exact ⟨HB.out.alloc (HB.out.size) _, muchTrue xs⟩
            · go_wp2
              go_round
              case rel =>
                refine ⟨j + 1, by omega, by go_num, hid (fun i p hi hp => ?_)⟩
                by_cases e : i = j
                · subst e
                  simp [hjl] at hp
                  rw [← HY.out] at hp
                  rw [← hp]
                  exact (by omega : lost.length ≤ 300)
                · exact HJ.out i p (by omega) hp
              case measure => simp [intOf]; omega
          · go_wp2
            go_roundw
            case rel =>
              refine ⟨k + 1, t + data.length + name.size + to.size, by omega, by go_num, by go_num, by omega, hid (HB.out.alloc HB.out.size _), hid (fun i p hi hp => ?_)⟩
              by_cases e : i = k
              · subst e
                simp [hlt] at hp
                rw [← HX.out] at hp
                rw [← hp]
                refine ⟨by dsimp only; omega, by dsimp only; omega, by dsimp only; omega, by dsimp only; omega, by dsimp only; omega, by dsimp only; omega, fun p hp2 => ?_⟩
                obtain ⟨i2, hi2, rfl⟩ := List.getElem_of_mem hp2
                dsimp only at hi2
                exact HJ.out i2 _ (by omega) (by simp [hi2])
              · exact HP.out i p (by omega) hp
            case measure => simp [intOf]; omega
      · obtain rfl : k = xs.length := by omega
        go_wp2
        go_ret
        refine ⟨HB.out, _, rfl, ?_⟩
        intro h
        refine ⟨by omega, fun x hx => ?_⟩
        obtain ⟨i, hi, rfl⟩ := List.getElem_of_mem hx
        exact HP.out i _ hi (by simp [hi])

end Go.Proofs.YtlmompdfombgeaaGreat

namespace Go.Proofs.YtlmompdfombgeaaGreat
open Go.RowKit

theorem drewN_drewN' (w : World) (n m : Nat) : (w.drewN n).drewN m = w.drewN (n + m) := by
  simp [World.drewN, Nat.add_assoc]

theorem take_eq_step (xs ys : List Int) (k : Nat) (ha : k < xs.length) (hb : k < ys.length) (h : xs.take k = ys.take k) : xs.take (k + 1) = ys.take (k + 1) ↔ xs[k] = ys[k] := by
  rw [List.take_succ_eq_append_getElem ha, List.take_succ_eq_append_getElem hb, h]
  constructor
  · intro h2
    have := List.append_cancel_left h2
    injection this
  · intro h2
    rw [h2]

/-- w' is w behind some draws. -/
def DN (w w' : World) : Prop := ∃ nq, w' = w.drewN nq
theorem DN.refl (w : World) : DN w w := ⟨0, rfl⟩
theorem DN.more {w w' : World} (h : DN w w') (n : Nat) : DN w (w'.drewN n) := by
  obtain ⟨k, rfl⟩ := h
  exact ⟨_, drewN_drewN' _ _ _⟩
theorem DN.cell {w w' : World} (h : DN w w') (a : Addr) : w'.cell? a = w.cell? a := by
  obtain ⟨k, rfl⟩ := h
  simp

set_option maxRecDepth 100000 in
set_option maxHeartbeats 800000 in
theorem bytes_any (a b : Value) (xs ys : List Int) (w : World) (ha : Sl w a xs) (hb : Sl w b ys) (hl : xs.length ≤ 1000000000) :
    Calls Tryz.prog 60 #[a, b] w fun x w' => DN w w' ∧ x = .returned (.bool (decide (xs = ys))) := by
  obtain ⟨r, hr⟩ : ∃ r, r = decide (xs = ys) := ⟨_, rfl⟩
  rw [← hr]
  have HR := hid hr
  clear hr
  obtain ⟨ao, acap, rfl, hac, hax⟩ := ha
  obtain ⟨bo, bcap, rfl, hbc, hbx⟩ := hb
  by_cases hlen : xs.length = ys.length
  · have hlen' : ((xs.length : Int) == (ys.length : Int)) = true := by simp [hlen]
    have Hl := hid hlen
    have HA := hid hax
    have HB := hid hbx
    have hbl : ys.length ≤ 1000000000 := by omega
    have hab : (xs.length : Int) ≤ (ys.length : Int) := by omega
    have hba : (ys.length : Int) ≤ (xs.length : Int) := by omega
    clear hlen hax hbx hlen'
    go_enter Tryz.func60, Tryz.ntmps60
    go_wp2
    go_loopw [5] (fun i wr => ∃ (k : Nat), k ≤ xs.length ∧ i = .int .i64 k ∧ DN w wr ∧ Hid (xs.take k = ys.take k)) (fun i _ => xs.length - (intOf i).toNat)
    case atStart => exact ⟨0, Nat.zero_le _, rfl, DN.refl w, hid (by simp)⟩
    case round =>
      obtain ⟨k, hk, rfl, hdn, hpre⟩ := hrel
      by_cases hlt : k < xs.length
      · obtain ⟨ab, aoff, rfl, haj⟩ := HA.out (by intro e; subst e; simp at hlt)
        obtain ⟨bb, boff, rfl, hbj⟩ := HB.out (fun e => by rw [e, List.length_nil] at hab; omega)
        have hlt2 : k < ys.length := by omega
        have ca := (hdn.cell _).trans (haj k xs[k] (by simp [hlt]))
        have cb := (hdn.cell _).trans (hbj k ys[k] (by simp [hlt2]))
        have hst := take_eq_step xs ys k hlt hlt2 hpre.out
        obtain ⟨x, hx⟩ : ∃ x, x = xs[k] := ⟨_, rfl⟩
        obtain ⟨y, hy⟩ : ∃ y, y = ys[k] := ⟨_, rfl⟩
        rw [← hx] at ca hst
        rw [← hy] at cb hst
        have hne2 : x ≠ y → xs ≠ ys := by
          intro h e
          apply h
          rw [hx, hy]
          subst e
          rfl
        have HS : x = y → Hid (xs.take (k + 1) = ys.take (k + 1)) := fun h => hid (hst.2 h)
        have HN := hid hne2
        have i1 : (0 : Int) ≤ (k : Int) := by omega
        have i2 : (k : Int) < (xs.length : Int) := by omega
        have i3 : (k : Int) < (ys.length : Int) := by omega
        clear hx hy hst hne2 haj hbj
        by_cases hxy : x = y
        · have HT := HS hxy
          subst hxy
          clear HS
          go_wp2
          go_quiet (fail)
          go_wp2
          go_roundw
          case rel => first | exact ⟨k + 1, by omega, by go_num, hdn.more _, HT⟩ | ((repeat apply Exists.intro); exact ⟨⟨k + 1, by omega, by go_num, hdn.more _, HT⟩, rfl⟩)
          case measure => simp [intOf]; omega
        · have hxy2 : (x == y) = false := by simpa using hxy
          clear HS
          have Hr := hid (show decide (xs = ys) = false by simpa using HN.out hxy)
          go_wp2
          go_quiet (fail)
          go_wp2
          go_ret
          exact ⟨hdn.more _, by rw [HR.out, Hr.out]; rfl⟩
      · have Hr : Hid (decide (xs = ys) = true) := by
          have := hpre.out
          rw [List.take_of_length_le (by omega), List.take_of_length_le (by omega)] at this
          exact hid (by simpa using this)
        go_wp2
        go_ret
        exact ⟨hdn, by rw [HR.out, Hr.out]; rfl⟩
  · have Hr : Hid (decide (xs = ys) = false) := hid (by
      simp
      intro e; subst e; exact hlen rfl)
    have hne : ((xs.length : Int) == (ys.length : Int)) = false := by simp; omega
    clear hlen hax hbx
    go_enter Tryz.func60, Tryz.ntmps60
    go_wp2
    go_ret
    exact ⟨DN.refl _, by rw [HR.out, Hr.out]; rfl⟩

end Go.Proofs.YtlmompdfombgeaaGreat

namespace Go.Proofs.YtlmompdfombgeaaGreat
open Go.RowKit

/-- make([]byte, n). -/
theorem make_bytes (n : Nat) (hn : n ≤ 1000000000) : ∀ W : World, (Instr.makeSlice 35 (.int .i64 n) (.int .i64 n)).run Tryz.prog W = .ok (.slice (some ⟨W.heap.size, 0, none⟩) n n) (W.alloc (.cells (B8 (List.replicate n 0)).toArray 5)) := by
  intro W
  obtain ⟨i0, hi, hz0, hz1, hz2⟩ := info_parts Tryz.info5
  have h := run_make (P := Tryz.prog) W 35 5 i0 (.int .u8 0) Tryz.underlying35 hi hz0 .i64 .i64 (n : Int) (n : Int) (by omega) (by omega) (by rw [hz2]; omega) (by omega)
  rw [hz1] at h
  have e : madeCells (Value.int .u8 0).cells (((n : Int).toNat) * 1) = (B8 (List.replicate n 0)).toArray := by
    apply Array.ext
    · simp [madeCells, Value.cells, B8]
    · intro i h1 h2
      simp [madeCells, Value.cells, B8, Nat.mod_one]
  rw [e] at h
  simpa using h

/-- Bytes with the marks behind. -/
def rm (bs : List Int) : List Int := bs ++ List.replicate 40 171

theorem rm_len (bs : List Int) : (rm bs).length = bs.length + 40 := by simp [rm]

/-- The first k of l, noughts behind. -/
def part (l : List Int) (k : Nat) : List Int := l.take k ++ List.replicate (l.length - k) 0

theorem part_len (l : List Int) (k : Nat) (h : k ≤ l.length) : (part l k).length = l.length := by simp [part]; omega
theorem part_step (l : List Int) (k : Nat) (h : k < l.length) (y : Int) (hy : l[k]? = some y) : (part l k).set k y = part l (k + 1) := by
  apply List.ext_getElem?
  intro i
  simp only [part, List.getElem?_set, List.length_append, List.length_take, List.length_replicate]
  by_cases e : k = i
  · subst e
    have h1 : k < min k l.length + (l.length - k) := by omega
    rw [if_pos rfl, if_pos h1, List.getElem?_append_left (by simp; omega), List.getElem?_take, if_pos (by omega), hy]
  · rw [if_neg e]
    simp only [List.getElem?_append, List.length_take, List.getElem?_take, List.getElem?_replicate]
    have e1 : min k l.length = k := by omega
    have e2 : min (k + 1) l.length = k + 1 := by omega
    rw [e1, e2]
    by_cases h1 : i < k
    · have h3 : i < k + 1 := by omega
      simp [h1, h3]
    · have h3 : ¬ i < k + 1 := by omega
      have h4 : (i - k < l.length - k) = (i - (k + 1) < l.length - (k + 1)) := propext ⟨fun _ => by omega, fun _ => by omega⟩
      simp [h1, h3, h4]
theorem part_twice (l : List Int) (k : Nat) (y z : Int) : ((part l k).set k y).set k z = (part l k).set k z := by simp
theorem part_full (l : List Int) : part l l.length = l := by simp [part]

theorem Own.set {w : World} {g : Nat} {bs : List Int} (h : Own w g bs) (j : Nat) (y : Int) : Own (w.setCell ⟨g, j, none⟩ (.int .u8 y)) g (bs.set j y) := by
  have := set_block (i := j) h (.int .u8 y)
  unfold Own
  rw [this]
  congr 2
  apply Array.toList_inj.1
  simp [B8, List.map_set]

theorem Own.cell {w : World} {g : Nat} {bs : List Int} (h : Own w g bs) (j : Nat) (y : Int) (hy : bs[j]? = some y) : w.cell? ⟨g, j, none⟩ = some (.int .u8 y) := by
  rw [cell_of_row w g j _ _ _ h]
  simp [B8, hy]

set_option maxRecDepth 100000 in
set_option maxHeartbeats 1600000 in
theorem roomy_any (v : Value) (bs : List Int) (w : World) (h : Sl w v bs) (hl : bs.length ≤ 200000) :
    Calls Tryz.prog 51 #[v] w fun x w' => x = .returned (.slice (some ⟨w.heap.size, 0, none⟩) (bs.length + 40) (bs.length + 40)) ∧ Own w' w.heap.size (rm bs) ∧ Below w.heap.size w w' := by
  obtain ⟨ao, cap, rfl, hc, hx⟩ := h
  have hmk := make_bytes (bs.length + 40) (by omega)
  rw [show ((bs.length + 40 : Nat) : Int) = (bs.length : Int) + 40 by omega] at hmk
  have Hx := hid hx
  clear hx
  go_enter Tryz.func51, Tryz.ntmps51
  go_wp2
  go_loopw [4] (fun i wr => ∃ k : Nat, k ≤ bs.length + 40 ∧ i = .int .i64 k ∧ Own wr w.heap.size (part (rm bs) k) ∧ Below w.heap.size w wr) (fun i _ => bs.length + 40 - (intOf i).toNat)
  case atStart =>
    refine ⟨0, Nat.zero_le _, by go_num, ?_, (Below.refl _ _).alloc (Nat.le_refl _) _⟩
    have := hp_new w (.cells (B8 (List.replicate (bs.length + 40) 0)).toArray 5)
    unfold Own part
    rw [rm_len]
    simpa using this
  case round =>
    obtain ⟨k, hk, rfl, ho, hb⟩ := hrel
    by_cases hlt : k < bs.length + 40
    · obtain ⟨y, hy⟩ : ∃ y, (part (rm bs) k)[k]? = some y := ⟨(part (rm bs) k)[k]'(by rw [part_len _ _ (by rw [rm_len]; omega), rm_len]; exact hlt), by simp [part_len, rm_len, hlt, hk]⟩
      have cd := ho.cell k y hy
      have fz := free_of_block (o := k) ho
      have hgl := hp_lt ho
      have HO := hid ho
      have HB := hid hb
      have i2 : (k : Int) < ((bs.length + 40 : Nat) : Int) := by omega
      have i3 : (k : Int) < (bs.length : Int) + 40 := by omega
      by_cases hin : k < bs.length
      · obtain ⟨ab, aoff, rfl, haj⟩ := Hx.out (by intro e; subst e; simp at hin)
        have cs := haj k bs[k] (by simp [hin])
        have hsl := World.block_lt_of_cell? _ _ cs
        have cs' := (hb.cell hsl).trans cs
        have i4 : (k : Int) < (bs.length : Int) := by omega
        have ht : (rm bs)[k]? = some bs[k] := by
          rw [rm, List.getElem?_append_left hin]
          simp [hin]
        obtain ⟨z, hz⟩ : ∃ z, z = bs[k] := ⟨_, rfl⟩
        rw [← hz] at cs cs' ht
        have HT := hid ht
        have hne : ab ≠ w.heap.size := by simp at hsl; omega
        clear ho hb hy cs haj hz ht
        go_wp2
        go_roundw
        case rel =>
          refine ⟨k + 1, by omega, by go_num, ?_, ?_⟩
          · have := (HO.out.set k 171).set k z
            rw [part_twice, part_step _ _ (by rw [rm_len]; omega) z HT.out] at this
            exact this
          · exact (HB.out.setCell (p := ⟨w.heap.size, k, none⟩) (Nat.le_refl _) _).setCell (p := ⟨w.heap.size, k, none⟩) (Nat.le_refl _) _
        case measure => simp [intOf]; omega
      · have ht : (rm bs)[k]? = some 171 := by
          rw [rm, List.getElem?_append_right (by omega), List.getElem?_replicate, if_pos (by omega)]
        have HT := hid ht
        have i4 : ¬ (k : Int) < (bs.length : Int) := by omega
        clear ho hb hy ht
        go_wp2
        go_roundw
        case rel =>
          refine ⟨k + 1, by omega, by go_num, ?_, ?_⟩
          · have := HO.out.set k 171
            rw [part_step _ _ (by rw [rm_len]; omega) 171 HT.out] at this
            exact this
          · exact HB.out.setCell (p := ⟨w.heap.size, k, none⟩) (Nat.le_refl _) _
        case measure => simp [intOf]; omega
    · have hke := hid (show k = bs.length + 40 by omega)
      have i3 : ¬ ((k : Int) < ((bs.length + 40 : Nat) : Int)) := by omega
      have i4 : ¬ ((k : Int) < (bs.length : Int) + 40) := by omega
      have HO := hid ho
      have HB := hid hb
      clear ho hb
      go_wp2
      go_ret
      refine ⟨rfl, ?_, HB.out⟩
      have := HO.out
      rw [hke.out, ← rm_len, part_full] at this
      exact this

set_option maxRecDepth 100000 in
set_option maxHeartbeats 1600000 in
theorem left_any (v : Value) (bs : List Int) (g : Nat) (w : World) (h : Sl w v bs) (hl : bs.length ≤ 200000) (ho : Own w g (rm bs)) :
    Calls Tryz.prog 68 #[.slice (some ⟨g, 0, none⟩) (bs.length + 40) (bs.length + 40), v] w fun x w' => x = .returned (.bool true) ∧ DN w w' := by
  obtain ⟨ao, cap, rfl, hc, hx⟩ := h
  have Hx := hid hx
  have HO := hid ho
  clear hx ho
  go_enter Tryz.func68, Tryz.ntmps68
  go_wp2
  go_loopw [5] (fun i wr => ∃ k : Nat, k ≤ bs.length + 40 ∧ i = .int .i64 k ∧ DN w wr) (fun i _ => bs.length + 40 - (intOf i).toNat)
  case atStart => exact ⟨0, Nat.zero_le _, by go_num, DN.refl w⟩
  case round =>
    obtain ⟨k, hk, rfl, hdn⟩ := hrel
    by_cases hlt : k < bs.length + 40
    · have i2 : (k : Int) < ((bs.length + 40 : Nat) : Int) := by omega
      have i3 : (k : Int) < (bs.length : Int) + 40 := by omega
      by_cases hin : k < bs.length
      · obtain ⟨ab, aoff, rfl, haj⟩ := Hx.out (by intro e; subst e; simp at hin)
        have cs := (hdn.cell _).trans (haj k bs[k] (by simp [hin]))
        have i4 : (k : Int) < (bs.length : Int) := by omega
        have cd := (hdn.cell _).trans (HO.out.cell k bs[k] (by rw [rm, List.getElem?_append_left hin]; simp [hin]))
        obtain ⟨z, hz⟩ : ∃ z, z = bs[k] := ⟨_, rfl⟩
        rw [← hz] at cs cd
        have i6 : decide (bs.length ≤ k) = false := by simp; omega
        clear haj hz
        go_wp2
        go_quiet (fail)
        go_wp2
        go_roundw
        case rel => first | exact ⟨k + 1, by omega, by go_num, hdn.more _⟩ | exact ⟨k + 1, by omega, by go_num, hdn⟩ | ((repeat apply Exists.intro); exact ⟨⟨k + 1, by omega, by go_num, hdn.more _⟩, rfl⟩)
        case measure => simp [intOf]; omega
      · have cd := (hdn.cell _).trans (HO.out.cell k 171 (by rw [rm, List.getElem?_append_right (by omega), List.getElem?_replicate, if_pos (by omega)]))
        have i4 : ¬ (k : Int) < (bs.length : Int) := by omega
        have i5 : decide (bs.length ≤ k) = true := by simp; omega
        have i6 : decide (k < bs.length) = false := by simp; omega
        go_wp2
        go_quiet (fail)
        go_wp2
        go_roundw
        case rel => first | exact ⟨k + 1, by omega, by go_num, hdn.more _⟩ | exact ⟨k + 1, by omega, by go_num, hdn⟩ | ((repeat apply Exists.intro); exact ⟨⟨k + 1, by omega, by go_num, hdn.more _⟩, rfl⟩)
        case measure => simp [intOf]; omega
    · have i3 : ¬ ((k : Int) < ((bs.length + 40 : Nat) : Int)) := by omega
      have i4 : ¬ ((k : Int) < (bs.length : Int) + 40) := by omega
      go_wp2
      go_ret
      exact ⟨rfl, hdn⟩

end Go.Proofs.YtlmompdfombgeaaGreat
