/-
  LAYER 8 (rlog), THE PROGRAM: slices.Backward of entries; lastIndex.
-/
import Derived.RangeFuncNested
import Derived.RangeFuncBound
import Derived.RangeFuncCalls
import Derived.RangeFuncLeaves
import Derived.RangeFuncBox
import Derived.Shelf.Abstract
import Derived.Shelf.RegionOpen
import Derived.WalkKit
import Derived.OwnWalkIn
import Derived.TacticsInMore
import Derived.LoopNIn
import Derived.LoopIn
import Derived.Test.YtiffdhihhggkhaaPlVo
namespace Go.Proofs.Ytiffdhihhggkhaa
open Go.RowKit Go.Shelf
attribute [local go_sem] Oper.semAt_some
set_option linter.unusedVariables false
set_option maxRecDepth 100000

abbrev MeS := { x : Me // MeB x }
def meS0 : MeS := ⟨⟨0, 0, 0, ⟨#[]⟩⟩, ⟨⟨show (-9223372036854775808 : Int) ≤ 0 by decide, show (0 : Int) ≤ 9223372036854775807 by decide⟩, ⟨show (-9223372036854775808 : Int) ≤ 0 by decide, show (0 : Int) ≤ 9223372036854775807 by decide⟩, show (⟨#[]⟩ : ByteArray).size ≤ 100000 by decide⟩⟩
abbrev BkE := Nat × MeS
def bkAt (M : List MeS) (j : Nat) : BkE := (j, M[j]?.getD meS0)
/-- What has come in so many rounds. -/
def bk (M : List MeS) : Nat → List BkE
  | 0 => []
  | c + 1 => bk M c ++ [bkAt M (M.length - 1 - c)]
theorem bk_length (M : List MeS) : ∀ c, (bk M c).length = c
  | 0 => rfl
  | c + 1 => by rw [bk, List.length_append, bk_length M c]; rfl
theorem bk_mem (M : List MeS) : ∀ (c j : Nat), j < M.length → M.length ≤ j + c → bkAt M j ∈ bk M c
  | 0, j, h1, h2 => by omega
  | c + 1, j, h1, h2 => by
    rw [bk]
    by_cases h : M.length ≤ j + c
    · exact List.mem_append_left _ (bk_mem M c j h1 h)
    · rw [show M.length - 1 - c = j by omega]
      exact List.mem_append_right _ (by simp)
theorem bk_mem' (M : List MeS) : ∀ (c : Nat) (p : BkE), p ∈ bk M c → ∃ j, j < M.length ∨ M.length ≤ c
  | 0, p, h => by simp [bk] at h
  | c + 1, p, h => ⟨M.length - 1 - c, by omega⟩
/-- An entry as a value. -/
abbrev eVal (x : Me) : Value := .agg #[.int .i64 x.idx, .int .i64 x.term, .int .i64 x.kind, .string x.dt]
/-- A row's things, wherever what lay below n₀ lies on. -/
def BkCells (n₀ : Nat) (W : World) (a : Option Addr) (M : List MeS) : Prop := ∀ W', Below n₀ W W' → ∀ (j : Nat) (x : MeS), M[j]? = some x → ∃ b off, a = some ⟨b, off, none⟩ ∧ W'.cell? ⟨b, off + j * 4, none⟩ = some (.int .i64 x.1.idx) ∧ W'.cell? ⟨b, off + j * 4 + 1, none⟩ = some (.int .i64 x.1.term) ∧ W'.cell? ⟨b, off + j * 4 + 2, none⟩ = some (.int .i64 x.1.kind) ∧ W'.cell? ⟨b, off + j * 4 + 3, none⟩ = some (.string x.1.dt)
theorem BkCells.below {n₀ : Nat} {A B : World} {a : Option Addr} {M : List MeS} (hc : BkCells n₀ A a M) (h : Below n₀ A B) : BkCells n₀ B a M := fun W' h' => hc W' (h.trans h')
set_option maxHeartbeats 4000000 in
theorem back1_in (F : Fence) (n : Nat) (hF : F.fn 68) (hro : F.round = none) (hn : 1 ≤ n) (l Bs n₀ : Nat) (a : Option Addr) (cap : Nat) (M : List MeS) (hM : M.length ≤ 5000) (J Jx : List BkE → World → Prop)
    (hY : ∀ (pre : List BkE) (x : BkE) W, J pre W → pre.length < M.length → YieldAt F (n - 1) Try.prog l #[.int .i64 (x.1 : Int), eVal x.2.1] W fun e W' =>
      (e = .returned (.bool true) ∧ J (pre ++ [x]) W' ∧ Below n₀ W W') ∨ (e = .returned (.bool false) ∧ Jx (pre ++ [x]) W'))
    (W : World) (hBs : W.cell? ⟨Bs, 0, none⟩ = some (.slice a M.length cap)) (hc : BkCells n₀ W a M) (hBn : Bs < n₀) (h0 : J [] W) :
    CallsIn F n Try.prog 68 #[.func (.yield l) #[] #[], .pointer (some ⟨Bs, 0, none⟩)] W fun e W' => (∃ v, e = .returned v) ∧
      ((∃ ys, ys = bk M M.length ∧ J ys W') ∨ (∃ pre, (∃ k, k ≤ M.length ∧ pre = bk M k) ∧ Jx pre W')) := by
  refine callsIn_of_wp Try.func68 rfl hF ?_ hro
  simp only [Try.ntmps68, List.size_toArray, List.length_cons, List.length_nil, Nat.reduceAdd, Nat.reduceSub, Array.replicate_succ, Array.replicate_zero, List.push_toArray, List.append_toArray, List.nil_append, List.cons_append]
  obtain ⟨len, hlen⟩ : ∃ len, M.length = len := ⟨_, rfl⟩
  rw [hlen] at hBs hM
  have hw0 : IntKind.i64.wrap ((len : Int) - 1) = (len : Int) - 1 := by rw [IntKind.wrap_i64]; omega
  gi_wp2
  gi_loopw [3] (fun i wr => ∃ c m : Nat, c + m = len ∧ i = .int .i64 ((m : Int) - 1) ∧ J (bk M c) wr ∧ Below n₀ W wr)
    (fun i _ => (intOf i + 1).toNat)
  case atStart => exact ⟨0, len, by omega, rfl, h0, Below.refl _ _⟩
  case round =>
    obtain ⟨c, m, hcm, rfl, hJs, hnx⟩ := hrel
    cases m with
    | zero =>
      gi_wp2
      go_end0
      exact ⟨⟨_, rfl⟩, .inl ⟨_, by rw [hlen, show len = c by omega], hJs⟩⟩
    | succ j =>
      have hj : j < M.length := by omega
      obtain ⟨x, hx⟩ : ∃ x, M[j]? = some x := ⟨_, List.getElem?_eq_getElem hj⟩
      obtain ⟨b, off, rfl, c0, c1, c2, c3⟩ := hc wr hnx j x hx
      have hBs2 := (hnx.cell (p := ⟨Bs, 0, none⟩) hBn).trans hBs
      obtain ⟨fn, tmps, assign, body, hy, hR⟩ := hY _ (j, x) wr hJs (by rw [bk_length]; omega)
      dsimp only at hy
      have hbk : bk M c ++ [(j, x)] = bk M (c + 1) := by rw [bk, bkAt, show M.length - 1 - c = j by omega, hx]; rfl
      rw [hbk] at hR
      have hjI : (j : Int) < (len : Int) := by omega
      have hj0 : (0 : Int) ≤ (j : Int) := by omega
      have ej : ((j + 1 : Nat) : Int) - 1 = (j : Int) := by omega
      rw [ej]
      have hw1 : IntKind.i64.wrap ((j : Int) - 1) = (j : Int) - 1 := by rw [IntKind.wrap_i64]; omega
      clear hx hbk
      gi_wp2
      refine hR.mono ?_
      rintro e W3 (⟨rfl, hJ3, hk3⟩ | ⟨rfl, hJx3⟩)
      · gi_wp2
        go_roundw
        case rel => exact ⟨c + 1, j, by omega, rfl, hJ3, hnx.trans hk3⟩
        case measure => simp [intOf]
      · gi_wp2
        refine bodyPost_ret (results_none rfl _ _ _) rfl ?_
        exact ⟨⟨_, rfl⟩, .inr ⟨_, ⟨c + 1, by omega, rfl⟩, hJx3⟩⟩
theorem back_stops (F : Fence) (n : Nat) (hF : F.fn 68) (hro : F.round = none) (hn : 1 ≤ n) (Bs n₀ : Nat) (a : Option Addr) (cap : Nat) (M : List MeS) (hM : M.length ≤ 5000) (w : World) (hBn : Bs < n₀) (hn₀ : n₀ ≤ w.heap.size)
    (hBs : w.cell? ⟨Bs, 0, none⟩ = some (.slice a M.length cap)) (hc : BkCells n₀ w a M) :
    SeqStopsK F n Try.prog 68 #[.pointer (some ⟨Bs, 0, none⟩)] (fun x : BkE => #[Value.int .i64 (x.1 : Int), eVal x.2.1]) (Below n₀) (fun ys => ys = bk M M.length) (fun pre => ∃ k, k ≤ M.length ∧ pre = bk M k) M.length w := fun l J Jx W hW _ _ hY h0 =>
  back1_in F n hF hro hn l Bs n₀ a cap M hM J Jx hY W ((hW.cell (p := ⟨Bs, 0, none⟩) (Nat.lt_of_lt_of_le hBn hn₀)).trans hBs) (hc.below (hW.mono hn₀)) hBn h0
set_option maxHeartbeats 1000000 in
theorem back_in (F : Fence) (n : Nat) (hF : F.fn 58) (hro : F.round = none) (a : Option Addr) (len cap : Nat) (w : World) :
    CallsIn F n Try.prog 58 #[.slice a len cap] w fun e w' => e = .returned (.func (.func 68) #[] #[.pointer (some ⟨w.heap.size, 0, none⟩)]) ∧ w' = w.alloc (.cells #[.slice a len cap] 26) := by
  refine callsIn_of_wp Try.func58 rfl hF ?_ hro
  simp only [Try.ntmps58, List.size_toArray, List.length_cons, List.length_nil, Nat.reduceAdd, Nat.reduceSub, Array.replicate_succ, Array.replicate_zero, List.push_toArray, List.append_toArray, List.nil_append, List.cons_append]
  gi_wp2
  go_ret
  exact ⟨rfl, rfl⟩
end Go.Proofs.Ytiffdhihhggkhaa
