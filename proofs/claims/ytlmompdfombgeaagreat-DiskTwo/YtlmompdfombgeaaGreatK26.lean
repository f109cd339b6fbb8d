import Derived.Test.YtlmompdfombgeaaGreatK25
import Derived.Test.YtlmompdfombgeaaGreatK18
namespace Go.Proofs.YtlmompdfombgeaaGreat
open Go.RowKit Go.MapKept

section
variable {w w' : World} {r : Nat} {R : Rt} {D : Dq} {n : Nat}

theorem owns_ty {W : World} {B : Nat} {e : TypeId} {m : Nat} {v : Value} {n : Nat} {xs : List Value} (h : W.ownsRow B e m v n xs) {k : Nat} (hk : v.ownBlock = some k) : ∃ cur, W.heap[k]? = some (.cells cur e (0, 0)) := by
  rcases h.2 with ⟨rfl, _⟩ | ⟨g', cap, cur, rfl, _, hgg, _⟩
  · simp [Value.ownBlock] at hk
  · simp [Value.ownBlock] at hk
    subst hk
    exact ⟨cur, hgg⟩

/-- Rows of different types lie in different blocks. -/
theorem owns_ne {W : World} {B B' : Nat} {e e' : TypeId} {m m' : Nat} {v v' : Value} {n n' : Nat} {xs xs' : List Value} (h : W.ownsRow B e m v n xs) (h' : W.ownsRow B' e' m' v' n' xs') (he : e ≠ e') (k : Nat) (hk : v.ownBlock = some k) : ¬ v'.ownBlock = some k := fun hk' => by
  obtain ⟨c1, h1⟩ := owns_ty h hk
  obtain ⟨c2, h2⟩ := owns_ty h' hk'
  rw [h1] at h2
  injection h2 with h2
  injection h2 with _ h2
  exact he h2

theorem fm_congr {α β : Type} {f g : α → List β} : ∀ {l : List α}, (∀ x ∈ l, f x = g x) → l.flatMap f = l.flatMap g
  | [], _ => rfl
  | x :: l, h => by
    rw [List.flatMap_cons, List.flatMap_cons, h x (List.mem_cons_self ..), fm_congr fun y hy => h y (List.mem_cons_of_mem _ hy)]

/-- What is only read stays. -/
theorem RdT.ros {S : Nat → Prop} (h : RdT w r R D) (hk : Kept S w w') (hs : ∀ k, R.ro k → ¬ S k) : Nl w' R.nv R.sn ∧ (∀ f ∈ D.files, Sn w' (R.bv f.no) f.safe) ∧ (∀ f ∈ D.files, ∀ p ∈ R.ps f.no, p.2.oneCell' = true ∧ ∀ ys, p.1 = .inl ys → Sn w' p.2 ys) ∧ Fl w' R.sv D.fs ∧ Fl w' R.rv D.fr :=
  ⟨Rf.kept h.nms hk fun k e => hs k (h.fn k e), fun f hf => (h.saf f hf).kept hk fun k e => hs k (h.fb f hf k e), fun f hf p hp => ⟨(h.pda f hf p hp).1, fun ys e => ((h.pda f hf p hp).2 ys e).kept hk fun k e2 => hs k (h.fd f hf p hp k e2)⟩, Rf.kept h.fs hk fun k e => hs k (h.f1 k e), Rf.kept h.fr hk fun k e => hs k (h.f2 k e)⟩

/-- A file more. -/
theorem RdT.addF (h : RdT w r R D) (no : Int) (hno : ∀ f ∈ D.files, f.no ≠ no) {v' : Value} (hd : w'.heap[r]? = some (.cells #[.int .i64 D.room, .int .i64 D.limit, .int .i64 D.made, v', R.nv, R.tv, R.sv, R.rv, .int .i64 D.st, .int .i64 D.rd, .bool D.off] 58 (0, 0)))
    (hown : w'.ownsRow 0 141 3 v' (D.files.length + 1) (D.files.flatMap (rfcs R) ++ [.int .i64 no, .slice none 0 0, .slice none 0 0])) (hk : Kept (fun q => q = r ∨ R.lv.ownBlock = some q) w w') (hnb : ∀ q, v'.ownBlock = some q → R.lv.ownBlock = some q ∨ w.heap.size ≤ q) :
    ∃ R', RGoes r w R D w' R' { D with files := D.files ++ [⟨no, [], []⟩] } := by
  have hro : ∀ k, R.ro k → ¬ (k = r ∨ R.lv.ownBlock = some k) := fun k e e2 => by
    rcases e2 with e2 | e2
    · exact h.r1 (e2 ▸ e)
    · exact h.ap k e (h.fl k e2)
  obtain ⟨o1, o2, o3, o4, o5⟩ := h.ros hk hro
  have hmem : ∀ f, f ∈ D.files ++ [(⟨no, [], []⟩ : Fi)] → f ∈ D.files ∧ f.no ≠ no ∨ f = ⟨no, [], []⟩ := fun f hf => by
    rcases List.mem_append.1 hf with hf | hf
    · exact .inl ⟨hf, hno f hf⟩
    · exact .inr (List.mem_singleton.1 hf)
  refine ⟨{ R with lv := v', bv := fun m => if m = no then .slice none 0 0 else R.bv m, pv := fun m => if m = no then .slice none 0 0 else R.pv m, ps := fun m => if m = no then [] else R.ps m, wo := fun k => R.wo k ∨ v'.ownBlock = some k }, ⟨hd, ?_, o1, h.ns, ?_, ?_, ?_, ?_, ?_, ?_, o4, o5, ?_, h.fn, ?_, h.f1, h.f2, ?_, ?_, ?_, ?_, h.r1, ?_, ?_⟩, ?_, ?_⟩
  · show w'.ownsRow 0 141 3 v' (D.files ++ [(⟨no, [], []⟩ : Fi)]).length _
    rw [List.length_append, List.flatMap_append]
    have e : ∀ l : List Fi, (∀ f ∈ l, f.no ≠ no) → l.flatMap (rfcs { R with lv := v', bv := fun m => if m = no then .slice none 0 0 else R.bv m, pv := fun m => if m = no then .slice none 0 0 else R.pv m, ps := fun m => if m = no then [] else R.ps m, wo := fun k => R.wo k ∨ v'.ownBlock = some k }) = l.flatMap (rfcs R) := fun l hl => fm_congr fun f hf => by simp [rfcs, hl f hf]
    rw [e D.files hno]
    simpa [rfcs] using hown
  · exact ownsRow_kept h.tur hk fun k e e2 => by
      rcases e2 with e2 | e2
      · exact h.r2 (e2 ▸ h.fu k e)
      · exact owns_ne h.tur h.lis (by decide) k e e2
  · intro f hf
    rcases hmem f hf with ⟨h1, h2⟩ | rfl
    · dsimp only; rw [if_neg h2]; exact o2 f h1
    · dsimp only; rw [if_pos rfl]; exact sn_nil _
  · intro f hf
    rcases hmem f hf with ⟨h1, h2⟩ | rfl
    · dsimp only; rw [if_neg h2, if_neg h2]
      exact ownsRow_kept (h.pen f h1) hk fun k e e2 => by
        rcases e2 with e2 | e2
        · exact h.r2 (e2 ▸ h.fp f h1 k e)
        · exact owns_ne (h.pen f h1) h.lis (by decide) k e e2
    · dsimp only; rw [if_pos rfl, if_pos rfl]; exact owns_nil _ _ _ _
  · intro f hf
    rcases hmem f hf with ⟨h1, h2⟩ | rfl
    · dsimp only; rw [if_neg h2]; exact h.pfs f h1
    · dsimp only; rw [if_pos rfl]; rfl
  · intro f hf p hp
    rcases hmem f hf with ⟨h1, h2⟩ | rfl
    · dsimp only at hp; rw [if_neg h2] at hp; exact o3 f h1 p hp
    · dsimp only at hp; rw [if_pos rfl] at hp; cases hp
  · intro f hf g hg hne k
    rcases hmem f hf with ⟨h1, h2⟩ | rfl
    · rcases hmem g hg with ⟨h3, h4⟩ | rfl
      · dsimp only; rw [if_neg h2, if_neg h4]; exact h.dis f h1 g h3 hne k
      · dsimp only; rw [if_pos rfl]; intro _ e; simp [Value.ownBlock] at e
    · dsimp only; rw [if_pos rfl]; intro e; simp [Value.ownBlock] at e
  · exact fun k e => .inr e
  · exact fun k e => .inl (h.fu k e)
  · intro f hf k e
    rcases hmem f hf with ⟨h1, h2⟩ | rfl
    · dsimp only at e; rw [if_neg h2] at e; exact h.fb f h1 k e
    · dsimp only at e; rw [if_pos rfl] at e; simp [Value.ownBlock] at e
  · intro f hf k e
    rcases hmem f hf with ⟨h1, h2⟩ | rfl
    · dsimp only at e; rw [if_neg h2] at e; exact .inl (h.fp f h1 k e)
    · dsimp only at e; rw [if_pos rfl] at e; simp [Value.ownBlock] at e
  · intro f hf p hp k e
    rcases hmem f hf with ⟨h1, h2⟩ | rfl
    · dsimp only at hp; rw [if_neg h2] at hp; exact h.fd f h1 p hp k e
    · dsimp only at hp; rw [if_pos rfl] at hp; cases hp
  · rintro k e (e2 | e2)
    · exact h.ap k e e2
    · rcases hnb k e2 with e3 | e3
      · exact h.ap k e (h.fl k e3)
      · have := h.lt k (.inl e); omega
  · rintro (e2 | e2)
    · exact h.r2 e2
    · rcases hnb r e2 with e3 | e3
      · exact h.r2 (h.fl r e3)
      · have := hp_lt h.disk; omega
  · rintro k (e | e | e)
    · exact Nat.lt_of_lt_of_le (h.lt k (.inl e)) hk.size
    · exact Nat.lt_of_lt_of_le (h.lt k (.inr e)) hk.size
    · exact (hown.lt k e).2
  · exact hk.mono fun k _ e => by
      rcases e with e | e
      · exact .inl e
      · exact .inr (.inr (h.fl k e))
  · rintro k (e | e | e | e)
    · exact .inl (.inl e)
    · exact .inl (.inr (.inl e))
    · exact .inl (.inr (.inr e))
    · rcases hnb k e with e | e
      · exact .inl (.inr (.inr (h.fl k e)))
      · exact .inr e

/-- A change of names more. -/
theorem RdT.addT (h : RdT w r R D) (x : Nmg) {v' : Value} (hd : w'.heap[r]? = some (.cells #[.int .i64 D.room, .int .i64 D.limit, .int .i64 D.made, R.lv, R.nv, v', R.sv, R.rv, .int .i64 D.st, .int .i64 D.rd, .bool D.off] 58 (0, 0)))
    (hown : w'.ownsRow 0 146 4 v' (D.turns.length + 1) (D.turns.flatMap tncs ++ tncs x)) (hk : Kept (fun q => q = r ∨ R.tv.ownBlock = some q) w w') (hnb : ∀ q, v'.ownBlock = some q → R.tv.ownBlock = some q ∨ w.heap.size ≤ q) :
    ∃ R', RGoes r w R D w' R' { D with turns := D.turns ++ [x] } := by
  have hro : ∀ k, R.ro k → ¬ (k = r ∨ R.tv.ownBlock = some k) := fun k e e2 => by
    rcases e2 with e2 | e2
    · exact h.r1 (e2 ▸ e)
    · exact h.ap k e (h.fu k e2)
  obtain ⟨o1, o2, o3, o4, o5⟩ := h.ros hk hro
  refine ⟨{ R with tv := v', wo := fun k => R.wo k ∨ v'.ownBlock = some k }, ⟨hd, ?_, o1, h.ns, ?_, o2, ?_, h.pfs, o3, h.dis, o4, o5, fun k e => .inl (h.fl k e), h.fn, fun k e => .inr e, h.f1, h.f2, h.fb, fun f hf k e => .inl (h.fp f hf k e), h.fd, ?_, h.r1, ?_, ?_⟩, ?_, ?_⟩
  · exact ownsRow_kept h.lis hk fun k e e2 => by
      rcases e2 with e2 | e2
      · exact h.r2 (e2 ▸ h.fl k e)
      · exact owns_ne h.lis h.tur (by decide) k e e2
  · show w'.ownsRow 0 146 4 v' (D.turns ++ [x]).length ((D.turns ++ [x]).flatMap tncs)
    rw [List.length_append, List.flatMap_append]
    simpa using hown
  · intro f hf
    exact ownsRow_kept (h.pen f hf) hk fun k e e2 => by
      rcases e2 with e2 | e2
      · exact h.r2 (e2 ▸ h.fp f hf k e)
      · exact owns_ne (h.pen f hf) h.tur (by decide) k e e2
  · rintro k e (e2 | e2)
    · exact h.ap k e e2
    · rcases hnb k e2 with e3 | e3
      · exact h.ap k e (h.fu k e3)
      · have := h.lt k (.inl e); omega
  · rintro (e2 | e2)
    · exact h.r2 e2
    · rcases hnb r e2 with e3 | e3
      · exact h.r2 (h.fu r e3)
      · have := hp_lt h.disk; omega
  · rintro k (e | e | e)
    · exact Nat.lt_of_lt_of_le (h.lt k (.inl e)) hk.size
    · exact Nat.lt_of_lt_of_le (h.lt k (.inr e)) hk.size
    · exact (hown.lt k e).2
  · exact hk.mono fun k _ e => by
      rcases e with e | e
      · exact .inl e
      · exact .inr (.inr (h.fu k e))
  · rintro k (e | e | e | e)
    · exact .inl (.inl e)
    · exact .inl (.inr (.inl e))
    · exact .inl (.inr (.inr e))
    · rcases hnb k e with e | e
      · exact .inl (.inr (.inr (h.fu k e)))
      · exact .inr e

end

end Go.Proofs.YtlmompdfombgeaaGreat

namespace Go.Proofs.YtlmompdfombgeaaGreat
open Go.RowKit Go.MapKept

/-- A row that is cut short. -/
theorem own_cut {W : World} {B : Nat} {e : TypeId} {ao : Option Addr} {n cap : Nat} {xs : List Value} (h : W.ownsRow B e 1 (.slice ao n cap) n xs) {k : Nat} (hk : k ≤ n) : W.ownsRow B e 1 (.slice ao k cap) k (xs.take k) := by
  refine ⟨by have := h.1; rw [List.length_take]; omega, ?_⟩
  rcases h.2 with ⟨e1, e2⟩ | ⟨g, cap', cur, e1, h1, h2, h3, h4, h5, h6⟩
  · injection e1 with e1 e3 e4
    have : k = 0 := by omega
    subst this
    exact .inl ⟨by rw [e1, e4], rfl⟩
  · injection e1 with e1 e3 e4
    refine .inr ⟨g, cap', cur, by rw [e1, e4], h1, h2, by omega, h4, h5, ?_⟩
    rw [← h6, List.take_take]
    congr 1
    omega

/-- Bytes and marks of a file under way: both in rows of their own from B on, apart. -/
structure By (B : Nat) (w : World) (v6 v7 : Value) (rc : List Int × List Bool) : Prop where
  a : w.ownsRow B 5 1 v6 rc.1.length (B8 rc.1)
  b : w.ownsRow B 4 1 v7 rc.1.length (BB rc.2)
  l : rc.2.length = rc.1.length

theorem rowC_lens : ∀ (cs : List Chg) (r : List Int × List Bool), r.2.length = r.1.length → (cs.foldl doC r).2.length = (cs.foldl doC r).1.length
  | [], _, h => h
  | c :: cs, r, h => rowC_lens cs (doC r c) (by cases c <;> simp [doC, h])

theorem rowC_l (safe : List Int) (cs : List Chg) : (rowC safe cs).2.length = (rowC safe cs).1.length := rowC_lens cs _ (by simp)

theorem own_cap {W : World} {B : Nat} {e : TypeId} {m : Nat} {ao : Option Addr} {n c : Nat} {xs : List Value} (h : W.ownsRow B e m (.slice ao n c) n xs) : n ≤ c := by
  rcases h.2 with ⟨e1, e2⟩ | ⟨g, cap', cur, e1, h1, h2, h3, h4, h5, h6⟩
  · omega
  · injection e1 with _ _ e4
    omega

theorem grow_ab {w W w' : World} {o : Obj} {e : TypeId} {m : Nat} {v : Value} {n : Nat} {xs : List Value} {B : Nat} (hb : Below B w W) (hB : B ≤ W.heap.size) (hown : W.ownsRow B e m v n xs) (hg : (W.alloc o).grownBy w' v.ownBlock) : Below B w w' := by
  have h1 : Below B w (W.alloc o) := hb.alloc hB o
  have h2 : Kept (fun q => v.ownBlock = some q) (W.alloc o) w' := (Kept.refl _ _).grown hg (fun _ _ e => e)
  exact h1.trans (h2.below (by simp; omega) (fun q hq e => by have := (hown.lt q e).1; omega))

theorem grow_ab0 {w W w' : World} {e : TypeId} {m : Nat} {v : Value} {n : Nat} {xs : List Value} {B : Nat} (hb : Below B w W) (hB : B ≤ W.heap.size) (hown : W.ownsRow B e m v n xs) (hg : W.grownBy w' v.ownBlock) : Below B w w' := by
  have h2 : Kept (fun q => v.ownBlock = some q) W w' := (Kept.refl _ _).grown hg (fun _ _ e => e)
  exact hb.trans (h2.below hB (fun q hq e => by have := (hown.lt q e).1; omega))

set_option maxRecDepth 100000 in
set_option maxHeartbeats 6400000 in
theorem rbytes_any (no : Int) (sv pv : Value) (safe : List Int) (ps : List (Chg × Value)) (m : Nat) (w : World) (hs : Sn w sv safe) (hp : Rf w 3 pv ps.length (ps.flatMap ccs)) (hd : ∀ p ∈ ps, ∀ ys, p.1 = .inl ys → Sn w p.2 ys) (hc : CutsOK safe (ps.map Prod.fst)) (hpk : peakC safe (ps.map Prod.fst) ≤ 4194304) (hn : ps.length ≤ 1000000) (hm : m ≤ ps.length) :
    Calls Tryz.prog 106 #[.agg #[.int .i64 no, sv, pv], .int .i64 m] w fun e w' => ∃ v1 v2, e = .returned (.tuple #[v1, v2]) ∧ By w.heap.size w' v1 v2 (rowC safe ((ps.map Prod.fst).take m)) ∧ Below w.heap.size w w' := by
  obtain ⟨asf, cs, rfl, -, -⟩ := hs.1
  obtain ⟨ap, cp, rfl, -, -⟩ := hp.shape
  have hba := bel_al w (.cells #[.int .i64 no, .slice asf safe.length cs, .slice ap ps.length cp] 141)
  have H0 := hid (And.intro (hs.below hba) (And.intro (hp.below hba) (And.intro (fun p hpp ys e => (hd p hpp ys e).below hba) (And.intro hba (hp_new w (.cells #[.int .i64 no, .slice asf safe.length cs, .slice ap ps.length cp] 141))))))
  have hsl : safe.length ≤ 4194304 := Nat.le_trans (safe_le_peak safe (ps.map Prod.fst)) hpk
  have HC := hid (And.intro hc hpk)
  have HPB := hid (fun k => Nat.le_trans (take_le_peak safe (ps.map Prod.fst) k) hpk)
  clear hs hp hd hba hc hpk
  go_enter Tryz.func106, Tryz.ntmps106
  go_upto_region 1 with fail
  refine cutG (fun W => Sn W (.slice asf safe.length cs) safe ∧ Rf W 3 (.slice ap ps.length cp) ps.length (ps.flatMap ccs) ∧ (∀ p ∈ ps, ∀ ys, p.1 = .inl ys → Sn W p.2 ys) ∧ Below w.heap.size w W ∧ W.heap[w.heap.size]? = some (.cells #[.int .i64 no, .slice asf safe.length cs, .slice ap ps.length cp] 141 (0, 0))) H0.out ?_
  rintro W0 HW0
  have HW := hid HW0
  clear H0 HW0
  obtain ⟨z0, z1, z2⟩ := cells3 HW.out.2.2.2.2
  have hmk := make_bools safe.length (by omega)
  go_upto_region 3 with (
    at_builtin
    refine wpList_append_sn _ rfl (.tmp 11) (.tmp 13) 35 5 Tryz.underlying35 rfl W0.heap.size (.slice none 0 0) 0 [] rfl (owns_nil _ _ _ _) (.slice asf safe.length cs) safe rfl HW.out.1 (by omega) (Nat.le_refl _) ?_
    intro a1 c1 w1 hown hgr hob
    have H1 := hid (And.intro hown.out (grow_ab0 (Below.refl W0.heap.size W0) (Nat.le_refl _) (owns_nil W0 W0.heap.size 5 1) hgr.out))
    clear hown hgr hob)
  replace H1 := hid (show w1.ownsRow W0.heap.size 5 1 (.slice a1 safe.length c1) safe.length (B8 safe) ∧ Below W0.heap.size W0 w1 by have := H1.out; simp only [Nat.zero_add, List.nil_append] at this; exact this)
  have HBY := hid (show By W0.heap.size (w1.alloc (.cells (BB (List.replicate safe.length false)).toArray 4)) (.slice a1 safe.length c1) (.slice (some ⟨w1.heap.size, 0, none⟩) safe.length safe.length) (rowC safe []) from by
    refine ⟨ownsRow_kept H1.out.1 (Kept.ofBelow (bel_al w1 _)) (fun _ _ e => e), ?_, by simp [rowC]⟩
    have := OwnB.owns (B := W0.heap.size) (hp_new w1 (.cells (BB (List.replicate safe.length false)).toArray 4) : OwnB _ w1.heap.size (List.replicate safe.length false)) H1.out.2.size (by simp; unfold maxLen; omega)
    simpa [rowC] using this)
  have HB1 := hid (show Below W0.heap.size W0 (w1.alloc (.cells (BB (List.replicate safe.length false)).toArray 4)) from H1.out.2.alloc H1.out.2.size _)
  have hcp1 := own_cap H1.out.1
  have e0 : (BB (List.replicate safe.length false)).toArray = Array.replicate safe.length (Value.bool false) := by simp [BB]
  rw [e0] at HBY HB1
  clear e0
  go_wp2_with fail
  go_loopw [6, 7, 8] (fun v6 v7 ix wr => ∃ (k L : Nat) (a6 : Option Addr) (c6 : Nat) (a7 : Option Addr) (c7 : Nat), k ≤ m ∧ L ≤ 4194304 ∧ v6 = .slice a6 L c6 ∧ v7 = .slice a7 L c7 ∧ L ≤ c6 ∧ L ≤ c7 ∧ ix = .int .i64 k ∧ Hid (By W0.heap.size wr (.slice a6 L c6) (.slice a7 L c7) (rowC safe ((ps.map Prod.fst).take k)) ∧ L = (rowC safe ((ps.map Prod.fst).take k)).1.length ∧ Below W0.heap.size W0 wr)) (fun _ _ ix _ => m - (intOf ix).toNat)
  case atStart => exact ⟨0, safe.length, a1, c1, _, safe.length, Nat.zero_le _, hsl, rfl, rfl, hcp1, Nat.le_refl _, rfl, hid ⟨HBY.out, by simp [rowC], HB1.out⟩⟩
  case round =>
    clear HBY HB1 H1 hcp1 hmk
    obtain ⟨k, L, a6, c6, a7, c7, hk, hL, rfl, rfl, hL6, hL7, rfl, HR⟩ := hrel
    have hbk := HR.out.2.2
    have z2' := (hbk.cell (World.block_lt_of_cell? _ _ z2)).trans z2
    by_cases hlt : k < m
    · have i1 : (k : Int) < (m : Int) := by omega
      have hlt2 : k < ps.length := by omega
      have i2 : (k : Int) < (ps.length : Int) := by omega
      obtain ⟨g, ofs, cap', e, -, -, hcell⟩ := Rf.elem (f := ccs) ccs_len (by omega) HW.out.2.1 k hlt2
      injection e with e1 e2 e3
      subst e1 e3
      clear e2
      have hd := HW.out.2.2.1 ps[k] (List.getElem_mem hlt2)
      have hget : (ps.map Prod.fst)[k]? = some ps[k].1 := by simp [hlt2]
      have hrs := rowC_take_succ safe (ps.map Prod.fst) k _ hget
      obtain ⟨x, hx⟩ : ∃ x, x = ps[k] := ⟨_, rfl⟩
      rw [← hx] at hcell hd hget hrs
      obtain ⟨ch, dv⟩ := x
      have hcq := fun c u hu => ((hbk.cell (World.block_lt_of_cell? _ _ (hcell c u hu))).trans (hcell c u hu))
      cases ch with
      | inl ys =>
        obtain ⟨⟨ad, cd, e, -, -⟩, -⟩ := hd ys rfl
        dsimp only at e
        subst e
        have y0 := (show wr.cell? ⟨g, ofs + k * 3, none⟩ = some (.bool false) from hcq 0 _ rfl)
        have y1 := (show wr.cell? ⟨g, ofs + k * 3 + 1, none⟩ = some (.int .i64 0) from hcq 1 _ rfl)
        have y2 := (show wr.cell? ⟨g, ofs + k * 3 + 2, none⟩ = some (.slice ad ys.length cd) from hcq 2 _ rfl)
        have HD := hid (show Sn W0 (.slice ad ys.length cd) ys from hd ys rfl)
        have hce : rowC safe ((ps.map Prod.fst).take (k + 1)) = ((rowC safe ((ps.map Prod.fst).take k)).1 ++ ys, (rowC safe ((ps.map Prod.fst).take k)).2 ++ List.replicate ys.length true) := by rw [hrs]; rfl
        have hLy : L + ys.length ≤ 4194304 := by have h1 := HPB.out (k + 1); rw [hce] at h1; simp at h1; rw [HR.out.2.1]; omega
        have HCE := hid hce
        clear hcell hcq hd hget hx hce hrs
        go_upto_region 11 with fail
        have hba := bel_al wr (.cells #[.bool false, .int .i64 0, .slice ad ys.length cd] 148)
        have hb8 := HR.out.2.2.alloc HR.out.2.2.size (.cells #[.bool false, .int .i64 0, .slice ad ys.length cd] 148)
        refine cutG (fun W => By W0.heap.size W (.slice a6 L c6) (.slice a7 L c7) (rowC safe ((ps.map Prod.fst).take k)) ∧ Below W0.heap.size W0 W ∧ W.heap[wr.heap.size]? = some (.cells #[.bool false, .int .i64 0, .slice ad ys.length cd] 148 (0, 0)) ∧ W0.heap.size ≤ wr.heap.size) ⟨⟨ownsRow_kept HR.out.1.a (Kept.ofBelow hba) (fun _ _ e => e), ownsRow_kept HR.out.1.b (Kept.ofBelow hba) (fun _ _ e => e), HR.out.1.l⟩, hb8, hp_new wr _, HR.out.2.2.size⟩ ?_
        rintro W8 ⟨h81, h82, h83, h84⟩
        obtain ⟨x0, x1, x2⟩ := cells3 h83
        generalize wr.heap.size = cb at h83 h84 x0 x1 x2 ⊢
        have H8 := hid (And.intro h81 (And.intro h82 (And.intro h83 h84)))
        have HLE := hid HR.out.2.1
        have HOA := hid (show W8.ownsRow W0.heap.size 5 1 (.slice a6 L c6) L (B8 (rowC safe ((ps.map Prod.fst).take k)).1) by have h1 := h81.a; rw [← HR.out.2.1] at h1; exact h1)
        have HOB := hid (show W8.ownsRow W0.heap.size 4 1 (.slice a7 L c7) L (BB (rowC safe ((ps.map Prod.fst).take k)).2) by have h1 := h81.b; rw [← HR.out.2.1] at h1; exact h1)
        clear h81 h82 h83 h84 hba hb8 HR y0 y1 y2 z2' hbk
        go_upto_region 12 with (
          at_builtin
          refine wpList_append_sn _ rfl (.tmp 38) (.tmp 40) 35 5 Tryz.underlying35 rfl W0.heap.size (.slice a6 L c6) L _ rfl HOA.out (.slice ad ys.length cd) ys rfl (HD.out.below H8.out.2.1) (by omega) H8.out.2.1.size ?_
          intro a9 c9 w9 hown hgr hob
          have hk9 : Kept (fun q => (Value.slice a6 L c6).ownBlock = some q) W8 w9 := (Kept.refl _ _).grown hgr.out (fun _ _ e => e)
          have hcb := hp_kept H8.out.2.2.1 hk9 (fun e => by obtain ⟨cu, h1⟩ := owns_ty HOA.out e; rw [H8.out.2.2.1] at h1; injection h1 with h1; injection h1 with _ h1; exact absurd h1 (by decide))
          have H9 := hid (And.intro hown.out (And.intro (ownsRow_kept HOB.out hk9 (fun q e e2 => owns_ne HOB.out HOA.out (by decide) q e e2)) (And.intro (grow_ab0 H8.out.2.1 H8.out.2.1.size HOA.out hgr.out) hcb)))
          clear hown hgr hob hk9 hcb)
        clear H8 HOA HOB x0 x1 x2
        obtain ⟨x0, x1, x2⟩ := cells3 H9.out.2.2.2
        have hc9 := own_cap H9.out.1
        go_wp2_with fail
        go_loopw [7, 10] (fun v7 ix wq => ∃ (j : Nat) (a : Option Addr) (c : Nat), j ≤ ys.length ∧ v7 = .slice a (L + j) c ∧ ix = .int .i64 j ∧ Hid (wq.ownsRow W0.heap.size 5 1 (.slice a9 (L + ys.length) c9) (L + ys.length) (B8 ((rowC safe ((ps.map Prod.fst).take k)).1 ++ ys)) ∧ wq.ownsRow W0.heap.size 4 1 (.slice a (L + j) c) (L + j) (BB ((rowC safe ((ps.map Prod.fst).take k)).2 ++ List.replicate j true)) ∧ Below W0.heap.size W0 wq ∧ wq.heap[cb]? = some (.cells #[.bool false, .int .i64 0, .slice ad ys.length cd] 148 (0, 0)))) (fun _ ix _ => ys.length - (intOf ix).toNat)
        case atStart => exact ⟨0, a7, c7, Nat.zero_le _, rfl, rfl, hid ⟨H9.out.1, by simpa using H9.out.2.1, H9.out.2.2.1, H9.out.2.2.2⟩⟩
        case round =>
          clear x0 x1 x2 H9
          rename World => wq
          obtain ⟨j, aj, cj, hj, rfl, rfl, HQ⟩ := hrel
          obtain ⟨x0, x1, x2⟩ := cells3 HQ.out.2.2.2
          by_cases hjl : j < ys.length
          · have hjl' : (j : Int) < (ys.length : Int) := by omega
            have HZ := hid (show W0.heap.size ≤ (wq.alloc (.cells #[.bool true] 4)).heap.size by have := HQ.out.2.2.1.size; simp; omega)
            go_wp2_with (
              at_builtin
              refine wpList_append_rf _ rfl (.tmp 49) (.tmp 50) 107 4 _ 1 1 rfl Tryz.underlying107 Tryz.info4 rfl (by omega) W0.heap.size (.slice aj (L + j) cj) (L + j) _ rfl (HQ.out.2.1.alloc _) (.slice (some ⟨wq.heap.size, 0, none⟩) 1 1) 1 [.bool true] rfl (rf_new wq 4 #[.bool true] 1 rfl (by intro u hu; simp at hu; subst hu; rfl)) (by omega) (by unfold maxLen; omega) HZ.out ?_
              intro a10 c10 w10 hown hgr hob
              have hk10 : Kept (fun q => (Value.slice aj (L + j) cj).ownBlock = some q) wq w10 := ((Kept.refl _ wq).alloc _).grown hgr.out (fun _ _ e => e)
              have hcb := hp_kept HQ.out.2.2.2 hk10 (fun e => by obtain ⟨cu, h1⟩ := owns_ty HQ.out.2.1 e; rw [HQ.out.2.2.2] at h1; injection h1 with h1; injection h1 with _ h1; exact absurd h1 (by decide))
              have H10 := hid (show w10.ownsRow W0.heap.size 5 1 (.slice a9 (L + ys.length) c9) (L + ys.length) (B8 ((rowC safe ((ps.map Prod.fst).take k)).1 ++ ys)) ∧ w10.ownsRow W0.heap.size 4 1 (.slice a10 (L + (j + 1)) c10) (L + (j + 1)) (BB ((rowC safe ((ps.map Prod.fst).take k)).2 ++ List.replicate (j + 1) true)) ∧ Below W0.heap.size W0 w10 ∧ w10.heap[cb]? = some (.cells #[.bool false, .int .i64 0, .slice ad ys.length cd] 148 (0, 0)) from ⟨ownsRow_kept HQ.out.1 hk10 (fun q e e2 => owns_ne HQ.out.1 HQ.out.2.1 (by decide) q e e2), by have := hown.out; rw [List.replicate_succ', ← List.append_assoc]; simpa [BB, Nat.add_assoc] using this, grow_ab HQ.out.2.2.1 HQ.out.2.2.1.size HQ.out.2.1 hgr.out, hcb⟩)
              clear hown hgr hob hk10 hcb)
            clear x0 x1 x2
            go_roundw
            case rel => first | exact ⟨j + 1, a10, c10, by omega, rfl, by go_num, H10⟩ | ((repeat apply Exists.intro); exact ⟨⟨j + 1, a10, c10, by omega, rfl, by go_num, H10⟩, rfl⟩)
            case measure => simp [intOf]; omega
          · obtain rfl : ys.length = j := by omega
            have hcj := own_cap HQ.out.2.1
            have HN := hid (show By W0.heap.size wq (.slice a9 (L + ys.length) c9) (.slice aj (L + ys.length) cj) (rowC safe ((ps.map Prod.fst).take (k + 1))) ∧ L + ys.length = (rowC safe ((ps.map Prod.fst).take (k + 1))).1.length ∧ Below W0.heap.size W0 wq from by
              have hl2 : L + ys.length = (rowC safe ((ps.map Prod.fst).take (k + 1))).1.length := by rw [HCE.out]; simp; exact HLE.out
              refine ⟨⟨?_, ?_, rowC_l _ _⟩, hl2, HQ.out.2.2.1⟩
              · rw [← hl2, HCE.out]; exact HQ.out.1
              · rw [← hl2, HCE.out]; exact HQ.out.2.1)
            clear HQ
            go_wp2
            clear x0 x1 x2
            go_roundw
            case rel => first | exact ⟨k + 1, L + ys.length, a9, c9, aj, cj, by omega, hLy, rfl, rfl, hc9, hcj, by go_num, HN⟩ | ((repeat apply Exists.intro); exact ⟨⟨k + 1, L + ys.length, a9, c9, aj, cj, by omega, hLy, rfl, rfl, hc9, hcj, by go_num, HN⟩, rfl⟩)
            case measure => simp [intOf]; omega
      | inr c =>
        have y0 := (show wr.cell? ⟨g, ofs + k * 3, none⟩ = some (.bool true) from hcq 0 _ rfl)
        have y1 := (show wr.cell? ⟨g, ofs + k * 3 + 1, none⟩ = some (.int .i64 c) from hcq 1 _ rfl)
        have y2 := (show wr.cell? ⟨g, ofs + k * 3 + 2, none⟩ = some (.slice none 0 0) from hcq 2 _ rfl)
        have hcL : c ≤ L := by rw [HR.out.2.1]; exact HC.out.1 k c hget
        clear hcell hcq hd hget hx
        go_upto_region 9 with fail
        have hba := bel_al wr (.cells #[.bool true, .int .i64 c, .slice none 0 0] 148)
        have hb8 := HR.out.2.2.alloc HR.out.2.2.size (.cells #[.bool true, .int .i64 c, .slice none 0 0] 148)
        refine cutG (fun W => By W0.heap.size W (.slice a6 L c6) (.slice a7 L c7) (rowC safe ((ps.map Prod.fst).take k)) ∧ Below W0.heap.size W0 W ∧ W.heap[wr.heap.size]? = some (.cells #[.bool true, .int .i64 c, .slice none 0 0] 148 (0, 0))) ⟨⟨ownsRow_kept HR.out.1.a (Kept.ofBelow hba) (fun _ _ e => e), ownsRow_kept HR.out.1.b (Kept.ofBelow hba) (fun _ _ e => e), HR.out.1.l⟩, hb8, hp_new wr _⟩ ?_
        rintro W8 ⟨h81, h82, h83⟩
        obtain ⟨x0, x1, x2⟩ := cells3 h83
        have hce : (rowC safe ((ps.map Prod.fst).take (k + 1))) = ((rowC safe ((ps.map Prod.fst).take k)).1.take c, (rowC safe ((ps.map Prod.fst).take k)).2.take c) := by rw [hrs]; rfl
        have hlc : (rowC safe ((ps.map Prod.fst).take (k + 1))).1.length = c := by rw [hce]; simp; rw [← HR.out.2.1]; omega
        have HN := hid (show By W0.heap.size W8 (.slice a6 c c6) (.slice a7 c c7) (rowC safe ((ps.map Prod.fst).take (k + 1))) ∧ c = (rowC safe ((ps.map Prod.fst).take (k + 1))).1.length ∧ Below W0.heap.size W0 W8 from by
          refine ⟨⟨?_, ?_, rowC_l _ _⟩, hlc.symm, h82⟩
          · have h1 := h81.a
            rw [← HR.out.2.1] at h1
            rw [hlc, hce]
            have := own_cut h1 hcL
            simpa [B8, List.map_take] using this
          · have h1 := h81.b
            rw [← HR.out.2.1] at h1
            rw [hlc, hce]
            have := own_cut h1 hcL
            simpa [BB, List.map_take] using this)
        clear h81 h82 h83 hce hlc hrs hba hb8 HR y0 y1 y2 z2' hbk
        go_wp2
        go_roundw
        case rel => first | exact ⟨k + 1, c, a6, c6, a7, c7, by omega, by omega, rfl, rfl, by omega, by omega, by go_num, HN⟩ | ((repeat apply Exists.intro); exact ⟨⟨k + 1, c, a6, c6, a7, c7, by omega, by omega, rfl, rfl, by omega, by omega, by go_num, HN⟩, rfl⟩)
        case measure => simp [intOf]; omega
    · obtain rfl : m = k := by omega
      go_wp2
      go_ret2
      refine ⟨_, _, rfl, ⟨?_, ?_, rowC_l _ _⟩, bel_on HW.out.2.2.2.1 HR.out.2.2⟩
      · exact owns_mono HR.out.1.a HW.out.2.2.2.1.size
      · exact owns_mono HR.out.1.b HW.out.2.2.2.1.size

end Go.Proofs.YtlmompdfombgeaaGreat

namespace Go.Proofs.YtlmompdfombgeaaGreat
open Go.RowKit Go.MapKept

section
variable {w w' : World} {r : Nat} {R : Rt} {D : Dq} {n : Nat}

theorem ccs_one {ps : List (Chg × Value)} (h : ∀ p ∈ ps, p.2.oneCell' = true) : ∀ u ∈ ps.flatMap ccs, u.oneCell' = true := by
  intro u hu
  obtain ⟨p, hp, hx⟩ := List.mem_flatMap.1 hu
  unfold ccs at hx
  split at hx
  · simp at hx
    rcases hx with rfl | rfl | rfl
    · rfl
    · rfl
    · exact h p hp
  · simp at hx
    rcases hx with rfl | rfl | rfl <;> rfl

/-- A file's row of changes. -/
theorem RdT.prow (h : RdT w r R D) {f : Fi} (hf : f ∈ D.files) : (R.ps f.no).length = f.cs.length ∧ Rf w 3 (R.pv f.no) (R.ps f.no).length ((R.ps f.no).flatMap ccs) := by
  have e : (R.ps f.no).length = f.cs.length := by rw [← h.pfs f hf, List.length_map]
  refine ⟨e, ?_⟩
  rw [e]
  exact rf_of_owns (h.pen f hf) (ccs_one fun p hp => (h.pda f hf p hp).1)

theorem RdT.len_r (h : RdT w r R D) (hW : WD n D) (hn : n ≤ 100000) {f : Fi} (hf : f ∈ D.files) : ∀ W, Below w.heap.size w W →
    Calls Tryz.prog 101 #[.agg #[.int .i64 f.no, R.bv f.no, R.pv f.no]] W fun e w' => e = .returned (.tuple #[.int .i64 (f.row.1.length : Nat), .int .i64 (f.peak : Nat)]) ∧ Below W.heap.size W w' := by
  intro W hb
  have h2 := h.below hb
  obtain ⟨e, hp⟩ := h2.prow hf
  have := length_any f.no (R.bv f.no) (R.pv f.no) f.safe (R.ps f.no) W (h2.saf f hf).1 ⟨hp, fun p hp ys e => ((h2.pda f hf p hp).2 ys e).1⟩ (by rw [h2.pfs f hf]; exact (hW.chg f hf).2) (by rw [h2.pfs f hf]; exact hW.peak hf) (by have := (hW.chg f hf).1; omega)
  rw [h2.pfs f hf] at this
  exact this

theorem RdT.byt_r (h : RdT w r R D) (hW : WD n D) (hn : n ≤ 100000) {f : Fi} (hf : f ∈ D.files) (m : Nat) (hm : m ≤ f.cs.length) : ∀ W, Below w.heap.size w W →
    Calls Tryz.prog 106 #[.agg #[.int .i64 f.no, R.bv f.no, R.pv f.no], .int .i64 m] W fun e w' => ∃ v1 v2, e = .returned (.tuple #[v1, v2]) ∧ By W.heap.size w' v1 v2 (rowC f.safe (f.cs.take m)) ∧ Below W.heap.size W w' := by
  intro W hb
  have h2 := h.below hb
  obtain ⟨e, hp⟩ := h2.prow hf
  have := rbytes_any f.no (R.bv f.no) (R.pv f.no) f.safe (R.ps f.no) m W (h2.saf f hf) hp (fun p hp ys e => (h2.pda f hf p hp).2 ys e) (by rw [h2.pfs f hf]; exact (hW.chg f hf).2) (by rw [h2.pfs f hf]; exact hW.peak hf) (by have := (hW.chg f hf).1; omega) (by omega)
  rw [h2.pfs f hf] at this
  exact this

set_option maxRecDepth 100000 in
set_option maxHeartbeats 3200000 in
theorem held_r (h : RdT w r R D) (hW : WD n D) (hn : n ≤ 100000) :
    Calls Tryz.prog 43 #[.pointer (some ⟨r, 0, none⟩)] w fun e w' => e = .returned (.tuple #[.int .i64 (heldD D : Nat), .int .i64 D.files.length]) ∧ Below w.heap.size w w' := by
  obtain ⟨c0, c1, c2, c3, c4, c5, c6, c7, c8, c9, c10⟩ := h.cells
  obtain ⟨al, cl, hlv⟩ := own_shape h.lis
  have HF := hid h.fat
  rw [hlv] at c3
  have HL := hid hlv
  have H := hid h
  have hfl : D.files.length ≤ 1000 := by have h1 := hW.cnt; have h2 := hW.lim; omega
  have hsum : (D.files.map Fi.peak).sum ≤ 4194304 := by have h1 := hW.hld; have h2 := hW.room; omega
  have hd : heldD D = (D.files.map Fi.peak).sum := rfl
  rw [hd]
  clear h hlv hd c0 c1 c2 c4 c5 c6 c7 c8 c9 c10
  have HS := hid hsum
  go_enter Tryz.func43, Tryz.ntmps43
  go_wp2_with fail
  go_loopw [4, 5] (fun v4 ix wr => ∃ (k s : Nat), k ≤ D.files.length ∧ s ≤ 4194304 ∧ v4 = .int .i64 s ∧ ix = .int .i64 k ∧ Hid (s = ((D.files.take k).map Fi.peak).sum ∧ Below w.heap.size w wr)) (fun _ ix _ => D.files.length - (intOf ix).toNat)
  case atStart => exact ⟨0, 0, Nat.zero_le _, by omega, rfl, rfl, hid ⟨rfl, Below.refl _ _⟩⟩
  case round =>
    obtain ⟨k, s, hk, hs4, rfl, rfl, HR⟩ := hrel
    have hbk := HR.out.2
    have c3' := (hbk.cell (World.block_lt_of_cell? _ _ c3)).trans c3
    by_cases hlt : k < D.files.length
    · have i1 : (k : Int) < (D.files.length : Int) := by omega
      have hrf := HF.out
      rw [HL.out] at hrf
      obtain ⟨b, ofs, cap', e, -, -, hcell⟩ := Rf.elem (f := rfcs R) (fun _ => rfl) (by omega) hrf k hlt
      injection e with e1 e2 e3
      subst e1 e3
      clear e2 hrf
      have hmem := List.getElem_mem hlt
      have htk : ((D.files.take (k + 1)).map Fi.peak).sum = ((D.files.take k).map Fi.peak).sum + D.files[k].peak := by rw [List.take_succ_eq_append_getElem hlt, List.map_append, List.sum_append]; simp
      have hle : ((D.files.take (k + 1)).map Fi.peak).sum ≤ (D.files.map Fi.peak).sum := sum_sub ((List.take_sublist _ _).map _)
      obtain ⟨x, hx⟩ : ∃ x, x = D.files[k] := ⟨_, rfl⟩
      rw [← hx] at hcell hmem htk
      have hcq := fun c u hu => ((hbk.cell (World.block_lt_of_cell? _ _ (hcell c u hu))).trans (hcell c u hu))
      have y0 := (show wr.cell? ⟨b, ofs + k * 3, none⟩ = some (.int .i64 x.no) from hcq 0 _ rfl)
      have y1 := (show wr.cell? ⟨b, ofs + k * 3 + 1, none⟩ = some (R.bv x.no) from hcq 1 _ rfl)
      have y2 := (show wr.cell? ⟨b, ofs + k * 3 + 2, none⟩ = some (R.pv x.no) from hcq 2 _ rfl)
      have HLN := hid (H.out.len_r hW hn hmem wr HR.out.2)
      have hsx : s + x.peak ≤ 4194304 := by have := HS.out; rw [HR.out.1]; omega
      have HN := hid (show s + x.peak = ((D.files.take (k + 1)).map Fi.peak).sum by rw [htk, HR.out.1])
      clear hcell hcq hmem htk hle hx hbk
      go_wp2_with (
        go_at_call 101
        refine HLN.out.mono ?_
        rintro e w1 ⟨rfl, hb1⟩
        have H1 := hid (bel_on HR.out.2 hb1)
        clear hb1)
      clear y0 y1 y2 c3'
      go_roundw
      case rel => first | exact ⟨k + 1, s + x.peak, by omega, hsx, by go_num, by go_num, hid ⟨HN.out, H1.out⟩⟩ | ((repeat apply Exists.intro); exact ⟨⟨k + 1, s + x.peak, by omega, hsx, by go_num, by go_num, hid ⟨HN.out, H1.out⟩⟩, rfl⟩)
      case measure => simp [intOf]; omega
    · have hkl : D.files.take k = D.files := List.take_of_length_le (by omega)
      have HN := hid (show s = (D.files.map Fi.peak).sum by have := HR.out.1; rwa [hkl] at this)
      have HB := hid HR.out.2
      clear hkl HR hbk HS hsum
      go_wp2_with fail
      go_quiet (fail)
      go_wp2
      go_ret2
      refine ⟨?_, below_drewN HB.out _⟩
      rw [← HN.out]
      rfl

end

end Go.Proofs.YtlmompdfombgeaaGreat
