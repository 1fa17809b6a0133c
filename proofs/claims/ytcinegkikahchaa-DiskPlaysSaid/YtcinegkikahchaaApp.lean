/-
  append(b, s...) at a row of bytes: where the new row lies.
-/
import Derived.Test.YtcinegkikahchaaChg
import Derived.Lib.AppendStr
namespace Go.Proofs.Ytcinegkikahchaa
open Go.RowKit
set_option linter.unusedVariables false
set_option maxRecDepth 100000

theorem run_app_str (w : World) (ty : TypeId) (v : Value) (l : List UInt8) (hown : Bytes w 0 v l) (s : ByteArray) (hb : l.length + s.size ≤ 140737488355328) :
    ∃ v' w', (Builtin.append_ #[66, 9] ty #[v, .string s]).run Try.prog w = .ok v' w' ∧ Bytes w' 0 v' (l ++ s.data.toList) ∧ w.grownBy w' v.ownBlock ∧ (∀ b, v'.ownBlock = some b → v.ownBlock = some b ∨ w.heap.size ≤ b) := by
  obtain ⟨i0, hi, hz0, hz1, hz2⟩ := infoByte_parts
  have hm : l.length + s.size ≤ maxLen := by unfold maxLen; omega
  obtain ⟨v', w', hr, ho, hg, _⟩ := Lib.run_append_own_string (P := Try.prog) w 0 66 9 ty 5 i0 Try.underlying66 Try.underlying9 hi hz0 hz1 hz2 v l.length (Lib.byteCells l) hown s hm hb (Nat.zero_le _)
  refine ⟨v', w', hr, ?_, hg, ?_⟩
  · unfold Bytes
    rw [List.length_append, str_len, Lib.byteCells_append]
    exact ho
  · intro b hvb
    rcases hown.2 with ⟨rfl, h0⟩ | ⟨g, cap, cur, rfl, _, hgc, hnc, hcm, hcs, htake⟩
    · have hown' : w.ownsRow w.heap.size 5 1 (.slice none 0 0) l.length (Lib.byteCells l) := ⟨hown.1, .inl ⟨rfl, h0⟩⟩
      obtain ⟨v2, w2, hr2, ho2, _, _⟩ := Lib.run_append_own_string (P := Try.prog) w w.heap.size 66 9 ty 5 i0 Try.underlying66 Try.underlying9 hi hz0 hz1 hz2 (.slice none 0 0) l.length (Lib.byteCells l) hown' s hm hb (Nat.le_refl _)
      rw [hr] at hr2
      simp only [Result.ok.injEq] at hr2
      rw [← hr2.1, ← hr2.2] at ho2
      exact .inr (World.ownsRow.lt ho2 b hvb).1
    · by_cases hroom : l.length + s.size ≤ cap
      · have hr2 := Lib.run_append_room_string (P := Try.prog) w 66 9 ty 5 i0 Try.underlying66 Try.underlying9 hi hz1 g l.length cap cur hgc s hroom (by omega)
        rw [hr] at hr2
        simp only [Result.ok.injEq] at hr2
        rw [hr2.1] at hvb
        exact .inl hvb
      · have hr2 := Lib.run_append_grow_string (P := Try.prog) w 66 9 ty 5 i0 (.int .u8 0) Try.underlying66 Try.underlying9 hi hz0 ⟨g, 0, none⟩ l.length cap (Lib.byteCells l) (by rw [hz1, Lib.byteCells_length]; omega) (World.ownsRow.cells hown (g := g) rfl) s (by omega) (by omega) (by rw [hz2]; exact growslice_fits (by omega) (by omega))
        rw [hr] at hr2
        simp only [Result.ok.injEq] at hr2
        rw [hr2.1] at hvb
        cases hvb
        exact .inr (Nat.le_refl _)

/-- A call of append at the operation, by an equation on its run. -/
theorem wpList_append_run {w : World} {ops : Array Oper} {rest : List Oper} {o : Oper} {a : Act} {Q : Exit → Act → World → Prop} (hgd : o.guard = none) (sl x : Operand) (t u : TypeId)
    (ho : o.op = .call { callee := .builtin .append, args := #[sl, x], argTypes := #[t, u] }) (v s : Value) (hs : a.eval sl = v) (hx : a.eval x = s) (v' : Value) (w' : World)
    (hr : (Builtin.append_ #[t, u] o.type #[v, s]).run Try.prog w = .ok v' w') (h : wpList Try.prog ops Q rest (a.put o.dst v') w') : wpList Try.prog ops Q (o :: rest) a w := by
  refine wpList_plain hgd fun K hK => ?_
  unfold Oper.wp execOp
  simp only [ho, resolve, invoke, builtin, Sem.run_bind, Sem.run_pure, Result.andThen_ok, List.map_toArray, List.map_cons, List.map_nil, hs, hx, hr]
  exact hK _ _ h
end Go.Proofs.Ytcinegkikahchaa
