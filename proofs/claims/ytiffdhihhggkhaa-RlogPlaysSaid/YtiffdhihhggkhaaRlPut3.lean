/-
  LAYER 8 (rlog), THE DOCUMENT's LOG: all that a walk needs of 'g.L = append(append([]api.Entry{}, g.L...), x)', in the three orders.
-/
import Derived.Test.YtiffdhihhggkhaaRlRef5
namespace Go.Proofs.Ytiffdhihhggkhaa
open Go.RowKit
set_option linter.unusedVariables false
set_option maxRecDepth 100000

abbrev en0 : Obj := .cells #[] 49
abbrev en1 (x : Me) : Obj := .cells #[.int .i64 x.idx, .int .i64 x.term, .int .i64 x.kind, .string x.dt] 49
/-- A store at the log's fifth cell ends it. -/
structure PutEnd (W : World) (F : Nat → Prop) (r : Nat) (s : Rl) (x : Me) (la : Option Addr) (lc : Nat) (w2 : World) (a2 : Option Addr) (b2 : Nat) : Prop where
  cell : w2.cell? ⟨r, 4, none⟩ = some (.slice la s.ents.length lc)
  frozen : w2.frozen? ⟨r, 4, none⟩ = false
  turn : Hid (Turn rfRep F W (w2.setCell ⟨r, 4, none⟩ (.slice a2 (s.ents.length + 1) b2)) r { s with ents := s.ents ++ [x] })
  chg : Hid (Chg (fun b => b = r) W (w2.setCell ⟨r, 4, none⟩ (.slice a2 (s.ents.length + 1) b2)))
structure PutRun (W : World) (F : Nat → Prop) (r : Nat) (s : Rl) (x : Me) (la : Option Addr) (lc : Nat) (W0 : World) (g0 : Nat) (a1 : Option Addr) (b1 : Nat) (w1 : World) (gF : Nat) (w1' : World) (a2 : Option Addr) (b2 : Nat) (w2 : World) : Prop where
  e : Hid ((Builtin.append_ #[26, 26] 26 #[.slice (some ⟨g0, 0, none⟩) 0 0, .slice la s.ents.length lc]).run Try.prog W0 = .ok (.slice a1 s.ents.length b1) w1)
  f : Hid ((Builtin.append_ #[26, 26] 26 #[.slice a1 s.ents.length b1, .slice (some ⟨gF, 0, none⟩) 1 1]).run Try.prog w1' = .ok (.slice a2 (s.ents.length + 1) b2) w2)
  fin : PutEnd W F r s x la lc w2 a2 b2
  below : Below W.heap.size W w1
structure Put3 (W : World) (F : Nat → Prop) (r : Nat) (s : Rl) (x : Me) (la : Option Addr) (lc : Nat) (aA : Option Addr) (bA : Nat) (wA : World) (aA2 : Option Addr) (bA2 : Nat) (wA2 : World) (aB : Option Addr) (bB : Nat) (wB : World) (aB2 : Option Addr) (bB2 : Nat) (wB2 : World) (aC : Option Addr) (bC : Nat) (wC : World) (aC2 : Option Addr) (bC2 : Nat) (wC2 : World) : Prop where
  A : PutRun W F r s x la lc ((W.alloc en0).alloc (en1 x)).drew W.heap.size aA bA wA (W.heap.size + 1) wA aA2 bA2 wA2
  B : PutRun W F r s x la lc ((W.alloc (en1 x)).alloc en0).drew (W.heap.size + 1) aB bB wB W.heap.size wB aB2 bB2 wB2
  C : PutRun W F r s x la lc (W.alloc en0).drew W.heap.size aC bC wC wC.heap.size (wC.alloc (en1 x)) aC2 bC2 wC2
  at_ : W.cell? ⟨r, 4, none⟩ = some (.slice la s.ents.length lc) ∧ (W.alloc en0).cell? ⟨r, 4, none⟩ = some (.slice la s.ents.length lc) ∧ (W.alloc (en1 x)).cell? ⟨r, 4, none⟩ = some (.slice la s.ents.length lc) ∧ wA.cell? ⟨r, 4, none⟩ = some (.slice la s.ents.length lc) ∧ wB.cell? ⟨r, 4, none⟩ = some (.slice la s.ents.length lc) ∧ wC.cell? ⟨r, 4, none⟩ = some (.slice la s.ents.length lc) ∧ (wC.alloc (en1 x)).cell? ⟨r, 4, none⟩ = some (.slice la s.ents.length lc) ∧ ((W.alloc en0).alloc (en1 x)).cell? ⟨r, 4, none⟩ = some (.slice la s.ents.length lc) ∧ ((W.alloc (en1 x)).alloc en0).cell? ⟨r, 4, none⟩ = some (.slice la s.ents.length lc)
/-- Whatever holds in all worlds behind W holds in the worlds of Put3. -/
theorem Put3.all {W : World} {F : Nat → Prop} {r : Nat} {s : Rl} {x : Me} {la : Option Addr} {lc : Nat} {aA : Option Addr} {bA : Nat} {wA : World} {aA2 : Option Addr} {bA2 : Nat} {wA2 : World} {aB : Option Addr} {bB : Nat} {wB : World} {aB2 : Option Addr} {bB2 : Nat} {wB2 : World} {aC : Option Addr} {bC : Nat} {wC : World} {aC2 : Option Addr} {bC2 : Nat} {wC2 : World}
    (h : Put3 W F r s x la lc aA bA wA aA2 bA2 wA2 aB bB wB aB2 bB2 wB2 aC bC wC aC2 bC2 wC2) {p : World → Prop} (hp : ∀ wx, Below W.heap.size W wx → p wx) : p W ∧ p (W.alloc en0) ∧ p (W.alloc (en1 x)) ∧ p wA ∧ p wB ∧ p wC ∧ p (wC.alloc (en1 x)) ∧ p ((W.alloc en0).alloc (en1 x)) ∧ p ((W.alloc (en1 x)).alloc en0) :=
  ⟨hp _ (Below.refl _ _), hp _ ((Below.refl _ _).alloc (Nat.le_refl _) _), hp _ ((Below.refl _ _).alloc (Nat.le_refl _) _), hp _ h.A.below, hp _ h.B.below, hp _ h.C.below, hp _ (h.C.below.alloc h.C.below.size _), hp _ (((Below.refl _ _).alloc (Nat.le_refl _) _).alloc (by simp) _), hp _ (((Below.refl _ _).alloc (Nat.le_refl _) _).alloc (by simp) _)⟩
theorem putEnd_of {W w2 : World} {F : Nat → Prop} {r : Nat} {s : Rl} {x : Me} {va : Option Addr} {vc : Nat} {la : Option Addr} {lc : Nat} {a2 : Option Addr} {b2 : Nat} (hWI : rfRep.Is W F r s) (hI : RfIs W F r s (.slice va s.vot.length vc) (.slice la s.ents.length lc)) (hm : RMid enTy W w2 (.slice a2 (s.ents.length + 1) b2) (s.ents ++ [x])) : PutEnd W F r s x la lc w2 a2 b2 := by
  have o := hI.box.same (hm.below.block _ hI.box.lt)
  exact ⟨(o.cell 4).trans rfl, o.frozen 4, hid (rf_row hWI hm), hid ((Chg.of_below hm.below).trans (Chg.setCell _ ⟨r, 4, none⟩ _) (fun b e => .inl e))⟩
theorem put3 {W : World} {F : Nat → Prop} {r : Nat} {s : Rl} (hWI : rfRep.Is W F r s) (hl : s.ents.length ≤ 100000) (x : Me) : ∃ la lc aA bA wA aA2 bA2 wA2 aB bB wB aB2 bB2 wB2 aC bC wC aC2 bC2 wC2, Put3 W F r s x la lc aA bA wA aA2 bA2 wA2 aB bB wB aB2 bB2 wB2 aC bC wC aC2 bC2 wC2 := by
  obtain ⟨va, vc, la, lc, hI, hc⟩ := rf_c hWI
  obtain ⟨⟨aA, bA, wA, aA2, bA2, wA2, PA⟩, ⟨aB, bB, wB, aB2, bB2, wB2, PB⟩, ⟨aC, bC, wC, aC2, bC2, wC2, PC⟩⟩ := gput_runs (w := W) enTy_ok hI.ents hl x #[.int .i64 x.idx, .int .i64 x.term, .int .i64 x.kind, .string x.dt] rfl
  exact ⟨la, lc, aA, bA, wA, aA2, bA2, wA2, aB, bB, wB, aB2, bB2, wB2, aC, bC, wC, aC2, bC2, wC2, ⟨hid PA.e1, hid PA.e2, putEnd_of hWI hI PA.row, PA.b1w⟩, ⟨hid PB.e1, hid PB.e2, putEnd_of hWI hI PB.row, PB.b1w⟩, ⟨hid PC.e1, hid PC.e2, putEnd_of hWI hI PC.row, PC.b1w⟩,
    (hc _ (Below.refl _ _)).c4, (hc _ ((Below.refl _ _).alloc (Nat.le_refl _) _)).c4, (hc _ ((Below.refl _ _).alloc (Nat.le_refl _) _)).c4, (hc _ PA.b1w).c4, (hc _ PB.b1w).c4, (hc _ PC.b1w).c4, (hc _ (PC.b1w.alloc PC.b1w.size _)).c4, (hc _ (((Below.refl _ _).alloc (Nat.le_refl _) _).alloc (by simp) _)).c4, (hc _ (((Below.refl _ _).alloc (Nat.le_refl _) _).alloc (by simp) _)).c4⟩
end Go.Proofs.Ytiffdhihhggkhaa
