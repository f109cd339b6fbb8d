import Derived.Test.YtamajeagmkjjbaaMuch
import Derived.Test.YtamajeagmkjjbaaWtext
namespace Go.Proofs.Ytamajeagmkjjbaa
open Go.RowKit

/-- What 'lay' leaves of (bytes, error). -/
def layZ (s : List Int × Int) (x : It) : List Int × Int :=
  if x.kind = 1 then wfixZ s (x.u % 256) 1 else if x.kind = 2 then wfixZ s x.u x.n else if x.kind = 3 then wnumZ s x.n else if x.kind = 4 then wintZ s x.i else if x.kind = 5 then wtextZ s (strBs x.s) else s

/-- The Item as a value. -/
def It.val (x : It) : Value := .agg #[.int .i64 x.kind, .int .i64 x.n, .int .u64 x.u, .int .i64 x.i, .string x.s]

theorem WrStep.ofAlloc {B p : Nat} {g : Option Nat} {w w' : World} {bs : List Int} {e : Int} (o : Obj) (h : WrStep B p g (w.alloc o) w' bs e) : WrStep B p g w w' bs e := by
  obtain ⟨g', a, b, c⟩ := h
  refine ⟨g', a, ?_, ((Kept.refl _ w).alloc o).trans c (fun _ _ h => h)⟩
  rcases b with b | ⟨k, b1, b2⟩
  · exact .inl b
  · exact .inr ⟨k, by simp at b1; omega, b2⟩

theorem wr_alloc {B p : Nat} {g : Option Nat} {w : World} {bs : List Int} {e : Int} (h : Wr B w p g bs e) (o : Obj) : Wr B (w.alloc o) p g bs e :=
  h.kept ((Kept.refl (fun _ => False) _).alloc o) (fun h => h) (fun _ _ h => h)

set_option maxRecDepth 100000 in
set_option maxHeartbeats 1600000 in
theorem lay_any (B p : Nat) (g : Option Nat) (bs : List Int) (e : Int) (w : World) (x : It) (h : Wr B w p g bs e) (hB : B ≤ w.heap.size) (hx : x.ok) (hs : x.s.size ≤ 1000000000) (hl : bs.length ≤ 1000000000) :
    Calls Try.prog 11 #[.pointer (some ⟨p, 0, none⟩), x.val] w fun y w' => y = .returned (.tuple #[]) ∧ WrStep B p g w w' (layZ (bs, e) x).1 (layZ (bs, e) x).2 := by
  obtain ⟨kind, n, u, i, s⟩ := x
  obtain ⟨⟨k0, k1⟩, ⟨n0, n1⟩, ⟨u0, u1⟩, ⟨i0, i1⟩, _⟩ := hx
  dsimp only at k0 k1 n0 n1 u0 u1 i0 i1 hs
  unfold It.val layZ
  dsimp only
  have H := hid (fun o => wr_alloc h o)
  have hB1 : ∀ o, B ≤ (w.alloc o).heap.size := fun o => by simp; omega
  clear h
  by_cases c1 : kind = 1
  · rw [if_pos c1]
    subst c1
    have hm : IntKind.u8.wrap u = u % 256 := by rw [IntKind.wrap_u8]
    go_enter Try.func11, Try.ntmps11
    go_wp2_with fail
    refine (wbyte_any B p g bs e _ (u % 256) (H.out _) (hB1 _) (by omega) (by omega) hl).mono ?_
    rintro x w' ⟨rfl, hst⟩
    have HS := hid (WrStep.ofAlloc _ hst)
    clear hst
    go_wp2
    go_end0
    exact ⟨rfl, HS.out⟩
  · rw [if_neg c1]
    by_cases c2 : kind = 2
    · rw [if_pos c2]
      subst c2
      clear c1
      go_enter Try.func11, Try.ntmps11
      go_wp2_with fail
      refine (wfixed_any B p g bs e _ u n (H.out _) (hB1 _) u0 u1 hl).mono ?_
      rintro x w' ⟨rfl, hst⟩
      have HS := hid (WrStep.ofAlloc _ hst)
      clear hst
      go_wp2
      go_end0
      exact ⟨rfl, HS.out⟩
    · rw [if_neg c2]
      by_cases c3 : kind = 3
      · rw [if_pos c3]
        subst c3
        clear c1 c2
        go_enter Try.func11, Try.ntmps11
        go_wp2_with fail
        refine (wnum_any B p g bs e _ n (H.out _) (hB1 _) n1 hl).mono ?_
        rintro x w' ⟨rfl, hst⟩
        have HS := hid (WrStep.ofAlloc _ hst)
        clear hst
        go_wp2
        go_end0
        exact ⟨rfl, HS.out⟩
      · rw [if_neg c3]
        by_cases c4 : kind = 4
        · rw [if_pos c4]
          subst c4
          clear c1 c2 c3
          go_enter Try.func11, Try.ntmps11
          go_wp2_with fail
          refine (wint_any B p g bs e _ i (H.out _) (hB1 _) i0 i1 hl).mono ?_
          rintro x w' ⟨rfl, hst⟩
          have HS := hid (WrStep.ofAlloc _ hst)
          clear hst
          go_wp2
          go_end0
          exact ⟨rfl, HS.out⟩
        · rw [if_neg c4]
          by_cases c5 : kind = 5
          · rw [if_pos c5]
            subst c5
            clear c1 c2 c3 c4
            go_enter Try.func11, Try.ntmps11
            go_wp2_with fail
            refine (wtext_any B p g bs e _ s (H.out _) (hB1 _) hs hl).mono ?_
            rintro x w' ⟨rfl, hst⟩
            have HS := hid (WrStep.ofAlloc _ hst)
            clear hst
            go_wp2
            go_end0
            exact ⟨rfl, HS.out⟩
          · rw [if_neg c5]
            have d1 : (kind == 1) = false := by simpa using c1
            have d2 : (kind == 2) = false := by simpa using c2
            have d3 : (kind == 3) = false := by simpa using c3
            have d4 : (kind == 4) = false := by simpa using c4
            have d5 : (kind == 5) = false := by simpa using c5
            clear c1 c2 c3 c4 c5
            have H2 := hid (fun o => WrStep.ofAlloc o (WrStep.refl (H.out o)))
            clear H
            go_enter Try.func11, Try.ntmps11
            go_wp2
            go_end0
            exact ⟨rfl, H2.out _⟩

end Go.Proofs.Ytamajeagmkjjbaa
