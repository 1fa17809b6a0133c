/-
  GENERAL: A DRAWN REGION IN A ROUND OF A RANGE OVER A FUNCTION (the fence has a round there): it is walked as one outside, its operations one by one ('wpAnyIn_take' serves then); append in it.
-/
import Derived.Test.YtnbghghkahaenaaGRng
import Derived.OrdersIn
namespace Go.Proofs.Ytnbghghkahaenaa
open Go.RowKit Go.Shelf
set_option linter.unusedVariables false
set_option maxRecDepth 100000

theorem wpAnyIn_round {F : Fence} {n : Nat} {P : Program} {md : Region.Mode} {ops : Array Oper} {Q : Exit → Act → World → Prop} {l : Nat} (hro : F.round = none) (hnd : ∀ (i : Nat) (o : Oper), ops[i]? = some o → ∀ c, o.op ≠ .defer c) :
    ∀ (fuel : Nat) (listed : Array Bool) (a : Act) (w : World), wpAnyIn F n P md ops Q fuel listed a w → wpAnyIn (F.inRound l) n P md ops Q fuel listed a w
  | 0, listed, a, w, h => h
  | fuel + 1, listed, a, w, h => ⟨h.1, fun i hi => by
      have h1 := wpOpIn_mono (fun a w => wpAnyIn_round (l := l) hro hnd fuel _ a w) (h.2 i hi)
      unfold wpOpIn at h1 ⊢
      split at h1
      · rename_i ho
        exact h1
      · rename_i o ho
        have e : ∀ (K : Act → World → Prop), Oper.wpIn (F.inRound l) n P o a w K Q = Oper.wpIn F n P o a w K Q := fun K => by
          unfold Oper.wpIn
          rw [show (F.inRound l).round = some l from rfl, hro, Oper.semAt_none, Oper.semAt_some l _ _ (hnd i o ho)]
          rfl
        simp only [e]
        exact h1⟩
/-- An operation of a drawn region that is an append, inside a fence. -/
theorem stepIn_append_at {F : Fence} {n : Nat} {P : Program} {ops : Array Oper} {o : Oper} {a : Act} {w wx w' : World} {K : Act → World → Prop} {Q : Exit → Act → World → Prop} {E : Prop} {t u ty : TypeId} {v y v' : Value} (hr : (Builtin.append_ #[t, u] ty #[v, y]).run P wx = .ok v' w')
    (hw : w = wx) (hg : o.guard = none) (s x : Operand) (hop : o.op = Op.call { callee := Callee.builtin Builtin.append, args := #[s, x], argTypes := #[t, u] }) (hty : o.type = ty)
    (hs : a.eval s = v) (hx : a.eval x = y) (hK : K (a.put o.dst v') w') :
    if Region.wanted o (yielded ops a.tmps) = true then Oper.wpIn F n P o a w K Q else E := by
  subst hw hty
  have hw : Region.wanted o (yielded ops a.tmps) = true := by simp [Region.wanted, hg]
  rw [if_pos hw]
  unfold Oper.wpIn
  refine ⟨?_, ?_⟩
  · simp [Oper.about, hop, resolve, Target.leads, Sem.run_pure]
  · have e : o.semAt F.round a.eval = execOp a.eval o := by
      cases F.round with
      | none => rfl
      | some l => exact Oper.semAt_some l _ _ (by rw [hop]; intro c hc'; cases hc')
    rw [e]
    simp [execOp, hop, resolve, invoke, builtin, hs, hx, hr, Result.andThen]
    exact hK
end Go.Proofs.Ytnbghghkahaenaa
