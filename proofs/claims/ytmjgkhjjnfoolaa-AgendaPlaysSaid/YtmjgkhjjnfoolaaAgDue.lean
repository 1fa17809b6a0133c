/-
  LAYER 5 (agenda): Due.
-/
import Derived.Test.YtmjgkhjjnfoolaaAgDo
namespace Go.Proofs.Ytmjgkhjjnfoolaa
open Go.RowKit Go.Maps
set_option linter.unusedVariables false
set_option maxRecDepth 100000

def ncells (xs : List Int) : List Value := xs.map (.int .i64)
/-- A row of ints that is this place's own. -/
def NumRow (w : World) (v : Value) (xs : List Int) : Prop := w.ownsRow 0 3 1 v xs.length (ncells xs)
theorem NumRow.slice {w : World} {v : Value} {L : List Int} (h : NumRow w v L) : ∃ ao cap, v = .slice ao L.length cap ∧ L.length ≤ cap ∧ (ao = none → cap = 0) ∧ cap ≤ maxLen := by
  rcases h.2 with ⟨hv, hz⟩ | ⟨g, cap, cur, rfl, _, _, hnc, hcm, _⟩
  · exact ⟨none, 0, by rw [hv, hz], by omega, fun _ => rfl, Nat.zero_le _⟩
  · exact ⟨_, cap, rfl, hnc, fun e => (by cases e), hcm⟩
theorem NumRow.same {w w' : World} {v : Value} {L : List Int} (h : NumRow w v L) (hs : ∀ b, v.ownBlock = some b → w'.heap[b]? = w.heap[b]?) : NumRow w' v L := ownsRow_same h hs
theorem NumRow.lt {w : World} {v : Value} {L : List Int} (h : NumRow w v L) : ∀ b, v.ownBlock = some b → b < w.heap.size := fun b hb => (World.ownsRow.lt h b hb).2
theorem numRow_nil (w : World) : NumRow w (.slice none 0 0) [] := ⟨rfl, .inl ⟨rfl, rfl⟩⟩
theorem infoNum : (Try.prog.info? 3).map (fun i => (i.zero, i.size, i.bytes)) = some (some (.int .i64 0), 1, 8) := by kernel_rfl
theorem infoNum_parts : ∃ i, Try.prog.info? 3 = some i ∧ i.zero = some (.int .i64 0) ∧ i.size = 1 ∧ i.bytes = 8 := by
  obtain ⟨i, hi, hz⟩ := Option.map_eq_some_iff.1 infoNum
  simp only [Prod.mk.injEq] at hz
  exact ⟨i, hi, hz.1, hz.2.1, hz.2.2⟩
/-- A row of ints put behind another: the second lies wherever it does. -/
theorem run_nums (w : World) (ty : TypeId) (v : Value) (L M : List Int) (a : Addr) (cap2 : Nat) (hown : NumRow w v L) (hr : ∀ j u, (ncells M)[j]? = some u → w.cell? (a.add j) = some u) (hb : L.length + M.length ≤ 100000) :
    ∃ ao cap w', (Builtin.append_ #[33, 33] ty #[v, .slice (some a) M.length cap2]).run Try.prog w = .ok (.slice ao (L.length + M.length) cap) w' ∧ NumRow w' (.slice ao (L.length + M.length) cap) (L ++ M) ∧ w.grownBy w' v.ownBlock ∧ ((Value.slice ao (L.length + M.length) cap).ownBlock = v.ownBlock ∨ (Value.slice ao (L.length + M.length) cap).ownBlock = some w.heap.size) := by
  obtain ⟨i0, hi, hz0, hz1, hz2⟩ := infoNum_parts
  have hone : ∀ u ∈ ncells M, u.oneCell' = true := by
    intro u hu
    obtain ⟨x, _, rfl⟩ := List.mem_map.1 hu
    rfl
  obtain ⟨v', w', hrun, h2, h3, _, h5⟩ := run_append_own_at (P := Try.prog) w 0 33 ty 3 i0 _ 1 8 Try.underlying33 hi hz0 hz1 hz2 rfl (by omega) v L.length (ncells L) hown a M.length cap2 (ncells M) (by simp [ncells]) hr hone (by unfold maxLen; omega) (by omega) (Nat.zero_le _)
  have hrow : NumRow w' v' (L ++ M) := by
    unfold NumRow ncells
    rw [List.length_append, List.map_append]
    exact h2
  obtain ⟨ao, cap, rfl, _, _⟩ := hrow.slice
  rw [List.length_append] at hrun hrow h5
  exact ⟨ao, cap, w', hrun, hrow, h3, h5⟩
/-- A call of append at the operation, by an equation on its run. -/
theorem wpList_append_run {w : World} {ops : Array Oper} {rest : List Oper} {o : Oper} {a : Act} {Q : Exit → Act → World → Prop} (hgd : o.guard = none) (sl x : Operand) (t u : TypeId)
    (ho : o.op = .call { callee := .builtin .append, args := #[sl, x], argTypes := #[t, u] }) (v s : Value) (hs : a.eval sl = v) (hx : a.eval x = s) (v' : Value) (w' : World)
    (hr : (Builtin.append_ #[t, u] o.type #[v, s]).run Try.prog w = .ok v' w') (h : wpList Try.prog ops Q rest (a.put o.dst v') w') : wpList Try.prog ops Q (o :: rest) a w := by
  refine wpList_plain hgd fun K hK => ?_
  unfold Oper.wp execOp
  simp only [ho, resolve, invoke, builtin, Sem.run_bind, Sem.run_pure, Result.andThen_ok, List.map_toArray, List.map_cons, List.map_nil, hs, hx, hr]
  exact hK _ _ h
/-- .. the world and what is read as equations of their own. -/
theorem wpList_append_at {w wx w' : World} {ops : Array Oper} {rest : List Oper} {o : Oper} {a : Act} {Q : Exit → Act → World → Prop} {t u ty : TypeId} {v s v' : Value} (hr : (Builtin.append_ #[t, u] ty #[v, s]).run Try.prog wx = .ok v' w')
    (hw : w = wx) (hgd : o.guard = none) (sl x : Operand) (ho : o.op = .call { callee := .builtin .append, args := #[sl, x], argTypes := #[t, u] }) (hty : o.type = ty) (hs : a.eval sl = v) (hx : a.eval x = s)
    (h : wpList Try.prog ops Q rest (a.put o.dst v') w') : wpList Try.prog ops Q (o :: rest) a w := by
  subst hw hty
  exact wpList_append_run hgd sl x t u ho v s hs hx v' w' hr h
def vlen : Value → Nat
  | .slice _ n _ => n
  | _ => 0
/-- How far Due has come: D is told, R is left. -/
structure DueAt (w wr : World) (p : Nat) (F Fk : Nat → Prop) (D R : List It) (v : Value) : Prop where
  ag : AgTo w wr p F Fk R
  row : NumRow wr v (D.map Prod.snd)
  ap : ∀ b, v.ownBlock = some b → w.heap.size ≤ b ∧ ¬ Fk b
def DueRel (w : World) (p : Nat) (F : Nat → Prop) (S : List It) (now : Int) (v : Value) (wr : World) : Prop :=
  ∃ Fk D R, S = D ++ R ∧ (∀ x ∈ D, x.1 ≤ now) ∧ Hid (DueAt w wr p F Fk D R v)
theorem due_split {S D R : List It} {now : Int} (h : S = D ++ R) (hd : ∀ x ∈ D, x.1 ≤ now) (hr : ∀ x r, R = x :: r → now < x.1) : dueS now S = D ∧ restS now S = R := by
  subst h
  unfold dueS restS
  induction D with
  | nil =>
    cases R with
    | nil => exact ⟨rfl, rfl⟩
    | cons x r =>
      have h1 := hr x r rfl
      have h2 : decide (x.1 ≤ now) = false := decide_eq_false (by omega)
      simp only [List.nil_append, List.takeWhile_cons, List.dropWhile_cons, h2]
      exact ⟨rfl, rfl⟩
  | cons y D ih =>
    have h1 := hd y (by simp)
    have h2 : decide (y.1 ≤ now) = true := decide_eq_true h1
    obtain ⟨i1, i2⟩ := ih (fun x hx => hd x (by simp [hx]))
    simp only [List.cons_append, List.takeWhile_cons, List.dropWhile_cons, h2, if_true, i1]
    exact ⟨trivial, i2⟩
theorem AgTo.ap_below {w wr w2 : World} {p : Nat} {F Fk : Nat → Prop} {R : List It} (h : AgTo w wr p F Fk R) (hb : Below wr.heap.size wr w2) : AgTo w w2 p F Fk R := h.trans (AgTo.of_below h.is hb)
/-- Behind the append and the take. -/
theorem due_step {w wr wa w5 : World} {p : Nat} {F Fk : Nat → Prop} {D R : List It} {x : It} {v v' : Value} (h : DueAt w wr p F Fk D (x :: R) v) (hb : Below wr.heap.size wr wa) (hrow : NumRow w5 v' ((D ++ [x]).map Prod.snd)) (hg : wa.grownBy w5 v.ownBlock)
    (hat : v'.ownBlock = v.ownBlock ∨ v'.ownBlock = some wa.heap.size) : AgIs w5 p Fk (x :: R) ∧ ∀ w6 L L', L.Perm (x :: R) → RemEnd w5 w6 p Fk L x L' → DueAt w w6 p F (grow Fk w5 w6) (D ++ [x]) R v' := by
  have hwr := hb.size
  have h5 := Chg.of_grown hg
  have hlt := h.ag.is.lt
  have hag : AgIs w5 p Fk (x :: R) := (h.ag.is.below hb).same (fun b hf => h5.block b (by have := hlt b hf; omega) (fun e => (h.ap b e).2 hf)) h5.size
  refine ⟨hag, fun w6 L L' hp hr => ?_⟩
  have ht := AgTo.of_rem hag.ok hp hr
  rw [delS_head hag.ok] at ht
  have hto5 : AgTo w w5 p F Fk (x :: R) := ⟨hag, fun b hf => by
    rcases h.ag.sub b hf with k | k
    · exact .inl k
    · exact .inr ⟨k.1, by have := h5.size; have := k.2; omega⟩, (h.ag.chg.trans (T := fun _ => False) (Chg.of_below hb) (fun _ e => e.elim)).trans h5 (fun b e => .inr (h.ap b e).1)⟩
  have hv5 := hrow.lt
  have hno : ∀ b, v'.ownBlock = some b → w.heap.size ≤ b ∧ ¬ Fk b := fun b e => by
    rcases hat with k | k
    · exact h.ap b (by rw [← k]; exact e)
    · rw [k] at e
      cases e
      exact ⟨by have := h.ag.chg.size; omega, fun hf => by have := hlt _ hf; omega⟩
  refine ⟨hto5.trans ht, hrow.same (fun b hb' => hr.q.chg.block b (hv5 b hb') (hno b hb').2), fun b e => ⟨(hno b e).1, fun hf => ?_⟩⟩
  rcases hf with hf | hf
  · exact (hno b e).2 hf
  · have := hv5 b e; omega
theorem atake_any {w : World} {p : Nat} {F : Nat → Prop} {x : It} {R : List It} (h : AgIs w p F (x :: R)) :
    Calls Try.prog 23 #[.pointer (some ⟨p, 0, none⟩), .int .i64 0, .func (.func 25) #[] #[]] w fun e w' => e = .returned (.tuple #[.agg #[.int .i64 x.1, .int .i64 x.2], .bool true]) ∧ ∃ L L', L.Perm (x :: R) ∧ RemEnd w w' p F L x L' := by
  obtain ⟨⟨L, hq, hh, hp⟩, ho⟩ := h
  have h0 : 0 < L.length := by rw [hp.length_eq]; simp
  have hhd := Srt.head hh rfl hp ho.srt h0
  rw [List.tail_cons, List.cons.injEq] at hhd
  have := with_take hq hh h0
  rw [← hhd.1] at this
  exact this.mono fun e w' ⟨he, L', hr⟩ => ⟨he, L, L', hp, hr⟩
set_option maxHeartbeats 4000000 in
theorem adue_any {w : World} {p : Nat} {F : Nat → Prop} {S : List It} (h : AgIs w p F S) (hl : S.length ≤ 1000) (now : Int) :
    Calls Try.prog 15 #[.pointer (some ⟨p, 0, none⟩), .int .i64 now] w fun e w' => ∃ v F', e = .returned v ∧ DueAt w w' p F F' (dueS now S) (restS now S) v := by
  have HS : Hid (DueRel w p F S now (.slice none 0 0) w) := hid ⟨F, [], S, rfl, by simp, hid ⟨AgTo.of_below h (Below.refl _ _), numRow_nil w, fun b e => by simp [Value.ownBlock] at e⟩⟩
  clear h
  go_enter Try.func15, Try.ntmps15
  go_wp2
  go_loopw [5] (DueRel w p F S now) (fun v _ => S.length - vlen v)
  case atStart => exact HS.out
  case round =>
    obtain ⟨Fk, D, R, hS, hD, hA⟩ := hrel
    obtain ⟨ao, cap, rfl, hcap, -⟩ := hA.out.row.slice
    have HRoot := hid (root_any hA.out.ag.is)
    have hSl : S.length = D.length + R.length := by rw [hS, List.length_append]
    rw [List.length_map] at *
    cases R with
    | nil =>
      simp only [rootV] at HRoot
      have HSp := hid (due_split hS hD (fun x r e => by cases e))
      clear hS hD hSl
      go_wp2_with (go_at_call 23; (with_reducible refine HRoot.out.mono ?_); rintro e w1 ⟨rfl, hb1⟩)
      go_ret
      obtain ⟨e1, e2⟩ := HSp.out
      have hb2 := hb1.alloc hb1.size (.cells #[.int .i64 0, .int .i64 0] 60)
      rw [e1, e2]
      exact ⟨_, Fk, rfl, hA.out.ag.ap_below hb2, hA.out.row.same (fun b hb => hb2.block b (hA.out.row.lt b hb)), hA.out.ap⟩
    | cons x r =>
      simp only [rootV] at HRoot
      by_cases hx : now < x.1
      · have HSp := hid (due_split hS hD (fun y q e => by cases e; exact hx))
        clear hS hD hSl
        go_wp2_with (go_at_call 23; (with_reducible refine HRoot.out.mono ?_); rintro e w1 ⟨rfl, hb1⟩)
        go_ret
        obtain ⟨e1, e2⟩ := HSp.out
        have hb2 := hb1.alloc hb1.size (.cells #[.int .i64 x.1, .int .i64 x.2] 60)
        rw [e1, e2]
        exact ⟨_, Fk, rfl, hA.out.ag.ap_below hb2, hA.out.row.same (fun b hb => hb2.block b (hA.out.row.lt b hb)), hA.out.ap⟩
      · have hx' : x.1 ≤ now := by omega
        have HD : Hid (∀ y ∈ D ++ [x], y.1 ≤ now) := hid (fun y hy => by
          rcases List.mem_append.1 hy with hy | hy
          · exact hD y hy
          · simp at hy; subst hy; exact hx')
        have HSx : Hid (S = (D ++ [x]) ++ r) := hid (by rw [hS]; simp)
        have hApp : ∀ w1, Below wr.heap.size wr w1 → ∃ ao2 cap2 w5, (Builtin.append_ #[33, 33] 33 #[.slice ao D.length cap, .slice (some ⟨w1.heap.size + 1, 0, none⟩) 1 1]).run Try.prog ((w1.alloc (.cells #[.int .i64 x.1, .int .i64 x.2] 60)).alloc (.cells #[.int .i64 x.2] 3)) = .ok (.slice ao2 (D.length + 1) cap2) w5 ∧
            AgIs w5 p Fk (x :: r) ∧ Hid (∀ w6 L L', L.Perm (x :: r) → RemEnd w5 w6 p Fk L x L' → DueAt w w6 p F (grow Fk w5 w6) (D ++ [x]) r (.slice ao2 (D.length + 1) cap2)) := by
          intro w1 hb1
          have hb2 := (hb1.alloc hb1.size (.cells #[.int .i64 x.1, .int .i64 x.2] 60)).alloc (by have := hb1.size; simp; omega) (.cells #[.int .i64 x.2] 3)
          have ob := own.new (w1.alloc (.cells #[.int .i64 x.1, .int .i64 x.2] 60)) #[.int .i64 x.2] 3
          have hrow := hA.out.row.same (fun b hb => hb2.block b (hA.out.row.lt b hb))
          rw [show (w1.alloc (.cells #[.int .i64 x.1, .int .i64 x.2] 60)).heap.size = w1.heap.size + 1 by simp] at ob
          obtain ⟨ao2, cap2, w5, hr, hrow5, hg, hat⟩ := run_nums _ 33 _ _ [x.2] ⟨w1.heap.size + 1, 0, none⟩ 1 hrow (fun j u hu => by
            rw [Go.WideShapes.add_plain, Nat.zero_add, ob.cell j]
            simpa [ncells] using hu) (by rw [List.length_map]; simp; omega)
          rw [List.length_map] at hr hrow5 hat
          have hrow6 : NumRow w5 (.slice ao2 (D.length + 1) cap2) ((D ++ [x]).map Prod.snd) := by rw [List.map_append]; exact hrow5
          obtain ⟨h1, h2⟩ := due_step hA.out hb2 hrow6 hg hat
          exact ⟨ao2, cap2, w5, hr, h1, hid h2⟩
        have HApp := hid hApp
        clear hApp hS hD
        go_wp2_with (first
          | (go_at_call 23; first
            | ((with_reducible refine HRoot.out.mono ?_); rintro e w1 ⟨rfl, hb1⟩; obtain ⟨ao2, cap2, w5, hr5, ha5, hE5⟩ := HApp.out _ hb1; have HTk := hid (atake_any ha5); clear ha5)
            | ((with_reducible refine HTk.out.mono ?_); rintro e w6 ⟨rfl, L, L', hpp, hrr⟩; have HE := hid (hE5.out _ _ _ hpp hrr); clear hpp hrr))
          | (at_builtin; refine wpList_append_at hr5 (by with_reducible rfl) rfl _ _ rfl rfl rfl rfl ?_))
        go_roundw
        case rel => exact ⟨_, D ++ [x], r, HSx.out, HD.out, HE⟩
        case measure => simp [vlen]; simp at hSl; omega
end Go.Proofs.Ytmjgkhjjnfoolaa
